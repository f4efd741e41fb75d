/- The walk of PermBoths. -/
import Derived.Test.YtnklpfnmpnaegaaPn
import Derived.Deep.CutBlock
import Derived.Deep.DeepCutAuto
namespace Go.Proofs.Ytnklpfnmpnaegaa
open Go.ChangeShapes Go.WideShapes Go.ChangeAt Go.RowKit Go.Deep

set_option maxRecDepth 100000 in
set_option maxHeartbeats 12800000 in
theorem boths_walk (PB : BothC) (f : Option Addr) (len cap : Nat) (q : Nat → Q6) (w : World) (hQ : SeqAt 5 ask6V Ok6 w f len q) :
    Calls Try.prog 4 #[.slice f len cap] w fun e w' => e = .returned (.bool true) ∧ Below w.heap.size w w' := by
  have HW6 := Lib.hid (fun W => wakes6_any PB W)
  have HQ := Lib.hid hQ
  have HPB := Lib.hid PB
  clear hQ PB
  go_enter Try.func4, Try.ntmps4
  go_wp2
  go_loopw [3] (fun i wr => ∃ k : Nat, k ≤ len ∧ i = .int .i64 k ∧ Below w.heap.size w wr) (fun i _ => len - (intOf i).toNat)
  case atStart => exact ⟨0, Nat.zero_le _, rfl, Below.refl _ _⟩
  case round =>
    obtain ⟨k, hk, rfl, hb⟩ := hrel
    by_cases hlt : k < len ∧ k < 15
    · obtain ⟨hlt, hlt'⟩ := hlt
      obtain ⟨b, o, rfl, hr, hok⟩ := HQ.out k hlt
      generalize q k = qk at *
      obtain ⟨f1, n1, c1, L1, acc1, st, lv, pg⟩ := qk
      have HR := Lib.hid (hr.below hb)
      have y0 := HR.out.get0 (.slice f1 n1 c1) (by decide) rfl
      have i1 : (0 : Int) ≤ (k : Int) := by omega
      have i2 : (k : Int) < (len : Int) := by omega
      have d15 : decide ((k : Int) < 15) = true := decide_eq_true (by omega)
      have hn1 : Hid (n1 = L1.length) := hok.len
      have hnil : Hid (f1 = none → c1 = 0) := hok.nil
      have RL : Hid (RowsAt KA wr f1 L1) := Lib.hid (hok.rows.below hb)
      have B0 := Lib.hid hb
      clear hok hb hr
      by_cases h300 : 300 < n1
      · have d300 : decide ((300 : Int) < (n1 : Int)) = true := decide_eq_true (by omega)
        go_wp2
        go_ret
        exact ⟨rfl, B0.out⟩
      · have d300 : decide ((300 : Int) < (n1 : Int)) = false := decide_eq_false (by omega)
        have O0 := Lib.hid (OwnR.made (K := KA) wr wr.heap.size [] #[] 0 (Nat.le_refl _) rfl (by decide) rfl)
        have RL0 := Lib.hid (RL.out.below (bel_alloc (Below.refl _ _) (.cells #[] 30)))
        have HR0 := Lib.hid (HR.out.alloc (.cells #[] 30))
        have B00 := Lib.hid (bel_alloc (Below.refl wr.heap.size wr) (.cells #[] 30))
        have hs0 : wr.heap.size ≤ (wr.alloc (.cells #[] 30)).heap.size := B00.out.size
        have z0 := HR0.out.get0 (.slice f1 n1 c1) (by decide) rfl
        go_wp2_with (at_builtin; refine wpList_copyR (K := KA) rfl _ _ rfl wr.heap.size wr.heap.size 0 L1 rfl O0.out f1 n1 c1 rfl hn1.out RL0.out hnil.out (by omega) hs0 ?_; intro f2 c2 w2 hO2 hb2; have O2 := Lib.hid hO2; have B2 := Lib.hid (B00.out.trans hb2); have R2 := Lib.hid (HR.out.below B2.out); have RL2 := Lib.hid (RL.out.below B2.out); have BB2 := Lib.hid (bel_trans B0.out B2.out); clear hO2 hb2 y0 z0 O0 RL0 HR0 B00 hs0 RL HR B0)
        refine (HPB.out f2 n1 c2 L1 w2 O2.out.rows.2 hn1.out (by rw [← hn1.out]; omega)).mono ?_
        rintro e w3 ⟨rfl, hb3⟩
        unfold atrV atrC
        obtain ⟨x0, hx0⟩ : ∃ x0, bothL L1 = x0 := ⟨_, rfl⟩
        rw [hx0]
        have HX0 := Lib.hid hx0
        clear hx0
        obtain ⟨xr, xw, xx, xa, xn, xs⟩ := x0
        simp only
        have hl2 := O2.out.blt
        have X4 := Lib.hid (BoxAt.new w3 #[.bool xr, .bool xw, .bool xx, .bool xa, .bool xn, .int .i64 xs] 30)
        have hb4 := bel_alloc hb3 (.cells #[.bool xr, .bool xw, .bool xx, .bool xa, .bool xn, .int .i64 xs] 30)
        have O4 := Lib.hid (O2.out.below hb4)
        have R4 := Lib.hid (R2.out.below hb4)
        have RL4 := Lib.hid (RL2.out.below hb4)
        have B4 := Lib.hid (bel_trans B2.out hb4)
        have BB4 := Lib.hid (bel_trans BB2.out hb4)
        have hO4 : ∀ g, (Value.slice f2 n1 c2).ownBlock = some g → g < w3.heap.size := fun g hg => Nat.lt_of_lt_of_le (hl2 g hg) hb3.size
        have HO4 := Lib.hid hO4
        clear hb3 hb4 hl2 hO4 O2 R2 RL2 B2 BB2
        go_upto_region 8 with fail
        obtain ⟨W4, hW4⟩ : ∃ W4, W4 = w3.alloc (.cells #[.bool xr, .bool xw, .bool xx, .bool xa, .bool xn, .int .i64 xs] 30) := ⟨_, rfl⟩
        obtain ⟨pX, hpX⟩ : ∃ pX, pX = w3.heap.size := ⟨_, rfl⟩
        have hs4 : W4.heap.size = pX + 1 := by rw [hW4, hpX]; simp
        rw [← hW4] at X4 O4 R4 RL4 B4 BB4 ⊢
        rw [← hpX] at X4 HO4 ⊢
        clear hW4 hpX
        have x0 := X4.out.get 0 (.bool xr) rfl
        have x1 := X4.out.get 1 (.bool xw) rfl
        have x2 := X4.out.get 2 (.bool xx) rfl
        have x3 := X4.out.get 3 (.bool xa) rfl
        have x4 := X4.out.get 4 (.bool xn) rfl
        have x5 := X4.out.get 5 (.int .i64 xs) rfl
        have y0 := R4.out.get0 (.slice f1 n1 c1) (by decide) rfl
        have HRB := Lib.hid (fun W (hW : RowsAt KA W f1 L1) => bothA_any f1 n1 c1 L1 W hW hn1.out (by rw [← hn1.out]; omega))
        unfold atrV atrC at HRB
        simp only [HX0.out] at HRB
        have hqx := eqA_self ⟨xr, xw, xx, xa, xn, xs⟩
        go_region_held3 (fun w' => w'.cell? ⟨pX, 0, none⟩ = some (.bool xr) ∧ w'.cell? ⟨pX, 1, none⟩ = some (.bool xw) ∧ w'.cell? ⟨pX, 2, none⟩ = some (.bool xx) ∧ w'.cell? ⟨pX, 3, none⟩ = some (.bool xa) ∧ w'.cell? ⟨pX, 4, none⟩ = some (.bool xn) ∧ w'.cell? ⟨pX, 5, none⟩ = some (.int .i64 xs) ∧ w'.cell? ⟨b, o + k * 5, none⟩ = some (.slice f1 n1 c1))
          (refine ⟨?_, ?_, ?_, ?_, ?_, ?_, ?_⟩ <;> (first | exact x0 | exact x1 | exact x2 | exact x3 | exact x4 | exact x5 | exact y0 | exact keepc hb5 x0 | exact keepc hb5 x1 | exact keepc hb5 x2 | exact keepc hb5 x3 | exact keepc hb5 x4 | exact keepc hb5 x5 | exact keepc hb5 y0))
          ((go_at_call 14; refine (HRB.out _ (RL4.out.below (by go_grown))).mono ?_; rintro e w5 ⟨rfl, hb5⟩))
        have hb5' : Below W4.heap.size W4 w5 := bel_trans (Below.drew (Below.refl _ _)) hb5
        have X5 := Lib.hid (X4.out.below hb5')
        have O5 := Lib.hid (O4.out.below hb5')
        have R5 := Lib.hid (R4.out.below hb5')
        have RL5 := Lib.hid (RL4.out.below hb5')
        have BB5 := Lib.hid (bel_trans BB4.out hb5')
        have hs5 : W4.heap.size ≤ w5.heap.size := hb5'.size
        clear hb5 hb5' x0 x1 x2 x3 x4 x5 y0 X4 O4 R4 RL4 B4 BB4 HRB
        have iN : IntKind.i64.wrap ((n1 : Int) - 1) = (n1 : Int) - 1 := IntWalk.i64_in _ (by omega)
        go_wp2_with fail
        obtain ⟨wa, rfl⟩ : ∃ wa : World, wa = wr := ⟨_, rfl⟩
        go_loopw [6, 7] (fun s6 s7 wi => ∃ (m p : Nat) (f3 : Option Addr) (c3 : Nat), p + m = n1 ∧ s6 = .slice f3 p c3 ∧ s7 = .int .i64 ((m : Int) - 1) ∧ Hid (OwnR KA wi w5.heap.size (.slice f3 p c3) (L1.drop m).reverse) ∧ Hid (Below w5.heap.size w5 wi)) (fun _ s7 _ => (intOf s7 + 1).toNat)
        case atStart => exact ⟨n1, 0, none, 0, Nat.zero_add _, rfl, rfl, by show OwnR _ _ _ _ _; rw [hn1.out, List.drop_length]; exact OwnR.nil _ _, Below.refl _ _⟩
        case round =>
          obtain ⟨m, p, f3, c3, hm, hs6, hs7, HO, HB⟩ := hrel
          have hml : m = 0 ∨ ∃ j, m = j + 1 := by
            cases m with
            | zero => exact Or.inl rfl
            | succ j => exact Or.inr ⟨j, rfl⟩
          rcases hml with rfl | ⟨j, rfl⟩
          · rw [show (((0 : Nat) : Int) - 1) = -1 from rfl] at hs7
            subst hs6
            subst hs7
            rw [List.drop_zero] at HO
            have hp : p = n1 := by omega
            subst hp
            have X6 := Lib.hid (X5.out.below HB.out)
            have O6 := Lib.hid (O5.out.below HB.out)
            have BB6 := Lib.hid (bel_trans BB5.out HB.out)
            clear X5 O5 R5 RL5 BB5 HB
            have HPR := Lib.hid (fun W (hW : RowsAt KA W f3 L1.reverse) => HPB.out f3 p c3 L1.reverse W hW (by rw [List.length_reverse]; exact hn1.out) (by rw [List.length_reverse, ← hn1.out]; omega))
            unfold atrV atrC at HPR
            simp only [both_rev, HX0.out] at HPR
            go_upto_region 17 with fail
            have PK := X6.out
            have HOK := HO.out
            by_cases h2 : p = 2
            · subst h2
              obtain ⟨t0, t1, rfl⟩ : ∃ t0 t1, L1 = [t0, t1] := by
                have := hn1.out
                match L1, this with
                | [t0, t1], _ => exact ⟨t0, t1, rfl⟩
              obtain ⟨ib, io, rfl, r0⟩ := O6.out.rows.2 0 t0 rfl
              obtain ⟨ib', io', he, r1⟩ := O6.out.rows.2 1 t1 rfl
              simp only [Option.some.injEq, Addr.mk.injEq, and_true] at he
              obtain ⟨rfl, rfl⟩ := he
              simp only [show KA.N = 6 from rfl, Nat.zero_mul, Nat.add_zero, Nat.one_mul] at r0 r1
              obtain ⟨p0, p1, p2, p3, p4, p5⟩ := t0
              obtain ⟨q0, q1, q2, q3, q4, q5⟩ := t1
              refine wp_region_held_drew (S := (fun w' => BoxAt w' pX #[.bool xr, .bool xw, .bool xx, .bool xa, .bool xn, .int .i64 xs] 30 ∧ RowAt w' ib io 6 #[.bool p0, .bool p1, .bool p2, .bool p3, .bool p4, .int .i64 p5] ∧ RowAt w' ib (io + 6) 6 #[.bool q0, .bool q1, .bool q2, .bool q3, .bool q4, .int .i64 q5])) (by kernel_rfl) ⟨PK.drew, r0.drew, r1.drew⟩ (fun hS => ?_)
              refine wpAnyH_take (i := 0) (oi := ⟨some 69, _, _, _, _, _⟩) (v := ?_) rfl (by kernel_rfl) (by kernel_rfl) (by kernel_rfl) (fun _ _ _ h => h) (Or.inl ⟨by rfl, ?_⟩) hS ?_
              rotate_left
              · (intro w' hSw; obtain ⟨hx, h1, h2⟩ := hSw; have x0 := hx.get 0 (.bool xr) rfl; have x1 := hx.get 1 (.bool xw) rfl; have x2 := hx.get 2 (.bool xx) rfl; have x3 := hx.get 3 (.bool xa) rfl; have x4 := hx.get 4 (.bool xn) rfl; have x5 := hx.get 5 (.int .i64 xs) rfl; have a0 := h1.get0 (.bool p0) (by decide) rfl; have a1 := h1.get 1 (.bool p1) (by decide) rfl; have a2 := h1.get 2 (.bool p2) (by decide) rfl; have a3 := h1.get 3 (.bool p3) (by decide) rfl; have a4 := h1.get 4 (.bool p4) (by decide) rfl; have a5 := h1.get 5 (.int .i64 p5) (by decide) rfl; have b0 := h2.get0 (.bool q0) (by decide) rfl; have b1 : w'.cell? ⟨ib, io + 7, none⟩ = some (.bool q1) := h2.get 1 (.bool q1) (by decide) rfl; have b2 : w'.cell? ⟨ib, io + 8, none⟩ = some (.bool q2) := h2.get 2 (.bool q2) (by decide) rfl; have b3 : w'.cell? ⟨ib, io + 9, none⟩ = some (.bool q3) := h2.get 3 (.bool q3) (by decide) rfl; have b4 : w'.cell? ⟨ib, io + 10, none⟩ = some (.bool q4) := h2.get 4 (.bool q4) (by decide) rfl; have b5 : w'.cell? ⟨ib, io + 11, none⟩ = some (.int .i64 q5) := h2.get 5 (.int .i64 q5) (by decide) rfl; clear hx h1 h2; go_simp; try with_reducible rfl)
              simp only [Act.put, List.setIfInBounds_toArray, List.set_cons_zero, List.set_cons_succ]
              refine wpAnyH_take (i := 2) (oi := ⟨some 71, _, _, _, _, _⟩) (v := ?_) rfl (by kernel_rfl) (by kernel_rfl) (by kernel_rfl) (fun _ _ _ h => h) (Or.inl ⟨by rfl, ?_⟩) hS ?_
              rotate_left
              · (intro w' hSw; obtain ⟨hx, h1, h2⟩ := hSw; have x0 := hx.get 0 (.bool xr) rfl; have x1 := hx.get 1 (.bool xw) rfl; have x2 := hx.get 2 (.bool xx) rfl; have x3 := hx.get 3 (.bool xa) rfl; have x4 := hx.get 4 (.bool xn) rfl; have x5 := hx.get 5 (.int .i64 xs) rfl; have a0 := h1.get0 (.bool p0) (by decide) rfl; have a1 := h1.get 1 (.bool p1) (by decide) rfl; have a2 := h1.get 2 (.bool p2) (by decide) rfl; have a3 := h1.get 3 (.bool p3) (by decide) rfl; have a4 := h1.get 4 (.bool p4) (by decide) rfl; have a5 := h1.get 5 (.int .i64 p5) (by decide) rfl; have b0 := h2.get0 (.bool q0) (by decide) rfl; have b1 : w'.cell? ⟨ib, io + 7, none⟩ = some (.bool q1) := h2.get 1 (.bool q1) (by decide) rfl; have b2 : w'.cell? ⟨ib, io + 8, none⟩ = some (.bool q2) := h2.get 2 (.bool q2) (by decide) rfl; have b3 : w'.cell? ⟨ib, io + 9, none⟩ = some (.bool q3) := h2.get 3 (.bool q3) (by decide) rfl; have b4 : w'.cell? ⟨ib, io + 10, none⟩ = some (.bool q4) := h2.get 4 (.bool q4) (by decide) rfl; have b5 : w'.cell? ⟨ib, io + 11, none⟩ = some (.int .i64 q5) := h2.get 5 (.int .i64 q5) (by decide) rfl; clear hx h1 h2; go_simp; try with_reducible rfl)
              simp only [Act.put, List.setIfInBounds_toArray, List.set_cons_zero, List.set_cons_succ]
              refine wpAnyH_ready (rs := [1]) (by kernel_rfl) (by simp) ?_
              refine AllReadyH.cons (o := ⟨some 70, _, _, _, _, _⟩) rfl (fun K hK => ?_) AllReadyH.nil
              go_simp
              refine (HPR.out _ (HOK.rows.2.below (Below.drew (Below.refl _ _)))).mono ?_
              rintro e w7 ⟨rfl, hb7⟩
              refine hK.out _ _ ?_ (fun hS' => ?_)
              · (exact ⟨hS.1.below hb7, hS.2.1.below hb7, hS.2.2.below hb7⟩)
              clear hK K hS
              have hS := hS'
              clear hS'
              try simp only [Act.put, List.setIfInBounds_toArray, List.set_cons_zero, List.set_cons_succ]
              refine wpAnyH_take (i := 3) (oi := ⟨some 72, _, _, _, _, _⟩) (v := ?_) rfl (by kernel_rfl) (by kernel_rfl) (by kernel_rfl) (fun _ _ _ h => h) (Or.inl ⟨by rfl, ?_⟩) hS ?_
              rotate_left
              · (intro w' hSw; obtain ⟨hx, h1, h2⟩ := hSw; have x0 := hx.get 0 (.bool xr) rfl; have x1 := hx.get 1 (.bool xw) rfl; have x2 := hx.get 2 (.bool xx) rfl; have x3 := hx.get 3 (.bool xa) rfl; have x4 := hx.get 4 (.bool xn) rfl; have x5 := hx.get 5 (.int .i64 xs) rfl; have a0 := h1.get0 (.bool p0) (by decide) rfl; have a1 := h1.get 1 (.bool p1) (by decide) rfl; have a2 := h1.get 2 (.bool p2) (by decide) rfl; have a3 := h1.get 3 (.bool p3) (by decide) rfl; have a4 := h1.get 4 (.bool p4) (by decide) rfl; have a5 := h1.get 5 (.int .i64 p5) (by decide) rfl; have b0 := h2.get0 (.bool q0) (by decide) rfl; have b1 : w'.cell? ⟨ib, io + 7, none⟩ = some (.bool q1) := h2.get 1 (.bool q1) (by decide) rfl; have b2 : w'.cell? ⟨ib, io + 8, none⟩ = some (.bool q2) := h2.get 2 (.bool q2) (by decide) rfl; have b3 : w'.cell? ⟨ib, io + 9, none⟩ = some (.bool q3) := h2.get 3 (.bool q3) (by decide) rfl; have b4 : w'.cell? ⟨ib, io + 10, none⟩ = some (.bool q4) := h2.get 4 (.bool q4) (by decide) rfl; have b5 : w'.cell? ⟨ib, io + 11, none⟩ = some (.int .i64 q5) := h2.get 5 (.int .i64 q5) (by decide) rfl; clear hx h1 h2; go_simp; try with_reducible rfl)
              simp only [Act.put, List.setIfInBounds_toArray, List.set_cons_zero, List.set_cons_succ]
              refine wpAnyH_take (i := 4) (oi := ⟨some 73, _, _, _, _, _⟩) (v := ?_) rfl (by kernel_rfl) (by kernel_rfl) (by kernel_rfl) (fun _ _ _ h => h) (Or.inl ⟨by rfl, ?_⟩) hS ?_
              rotate_left
              · (intro w' hSw; obtain ⟨hx, h1, h2⟩ := hSw; have x0 := hx.get 0 (.bool xr) rfl; have x1 := hx.get 1 (.bool xw) rfl; have x2 := hx.get 2 (.bool xx) rfl; have x3 := hx.get 3 (.bool xa) rfl; have x4 := hx.get 4 (.bool xn) rfl; have x5 := hx.get 5 (.int .i64 xs) rfl; have a0 := h1.get0 (.bool p0) (by decide) rfl; have a1 := h1.get 1 (.bool p1) (by decide) rfl; have a2 := h1.get 2 (.bool p2) (by decide) rfl; have a3 := h1.get 3 (.bool p3) (by decide) rfl; have a4 := h1.get 4 (.bool p4) (by decide) rfl; have a5 := h1.get 5 (.int .i64 p5) (by decide) rfl; have b0 := h2.get0 (.bool q0) (by decide) rfl; have b1 : w'.cell? ⟨ib, io + 7, none⟩ = some (.bool q1) := h2.get 1 (.bool q1) (by decide) rfl; have b2 : w'.cell? ⟨ib, io + 8, none⟩ = some (.bool q2) := h2.get 2 (.bool q2) (by decide) rfl; have b3 : w'.cell? ⟨ib, io + 9, none⟩ = some (.bool q3) := h2.get 3 (.bool q3) (by decide) rfl; have b4 : w'.cell? ⟨ib, io + 10, none⟩ = some (.bool q4) := h2.get 4 (.bool q4) (by decide) rfl; have b5 : w'.cell? ⟨ib, io + 11, none⟩ = some (.int .i64 q5) := h2.get 5 (.int .i64 q5) (by decide) rfl; clear hx h1 h2; go_simp; try with_reducible rfl)
              simp only [Act.put, List.setIfInBounds_toArray, List.set_cons_zero, List.set_cons_succ]
              refine wpAnyH_take (i := 5) (oi := ⟨some 74, _, _, _, _, _⟩) (v := ?_) rfl (by kernel_rfl) (by kernel_rfl) (by kernel_rfl) (fun _ _ _ h => h) (Or.inl ⟨by rfl, ?_⟩) hS ?_
              rotate_left
              · (intro w' hSw; obtain ⟨hx, h1, h2⟩ := hSw; have x0 := hx.get 0 (.bool xr) rfl; have x1 := hx.get 1 (.bool xw) rfl; have x2 := hx.get 2 (.bool xx) rfl; have x3 := hx.get 3 (.bool xa) rfl; have x4 := hx.get 4 (.bool xn) rfl; have x5 := hx.get 5 (.int .i64 xs) rfl; have a0 := h1.get0 (.bool p0) (by decide) rfl; have a1 := h1.get 1 (.bool p1) (by decide) rfl; have a2 := h1.get 2 (.bool p2) (by decide) rfl; have a3 := h1.get 3 (.bool p3) (by decide) rfl; have a4 := h1.get 4 (.bool p4) (by decide) rfl; have a5 := h1.get 5 (.int .i64 p5) (by decide) rfl; have b0 := h2.get0 (.bool q0) (by decide) rfl; have b1 : w'.cell? ⟨ib, io + 7, none⟩ = some (.bool q1) := h2.get 1 (.bool q1) (by decide) rfl; have b2 : w'.cell? ⟨ib, io + 8, none⟩ = some (.bool q2) := h2.get 2 (.bool q2) (by decide) rfl; have b3 : w'.cell? ⟨ib, io + 9, none⟩ = some (.bool q3) := h2.get 3 (.bool q3) (by decide) rfl; have b4 : w'.cell? ⟨ib, io + 10, none⟩ = some (.bool q4) := h2.get 4 (.bool q4) (by decide) rfl; have b5 : w'.cell? ⟨ib, io + 11, none⟩ = some (.int .i64 q5) := h2.get 5 (.int .i64 q5) (by decide) rfl; clear hx h1 h2; go_simp; try with_reducible rfl)
              simp only [Act.put, List.setIfInBounds_toArray, List.set_cons_zero, List.set_cons_succ]
              refine wpAnyH_ready (rs := [6]) (by kernel_rfl) (by simp) ?_
              refine AllReadyH.cons (o := ⟨some 75, _, _, _, _, _⟩) rfl (fun K hK => ?_) AllReadyH.nil
              go_simp
              refine hK.out _ _ ?_ (fun hS' => ?_)
              · (exact hS)
              clear hK K hS
              have hS := hS'
              clear hS'
              try simp only [Act.put, List.setIfInBounds_toArray, List.set_cons_zero, List.set_cons_succ]
              refine wpAnyH_take (i := 7) (oi := ⟨some 76, _, _, _, _, _⟩) (v := ?_) rfl (by kernel_rfl) (by kernel_rfl) (by kernel_rfl) (fun _ _ _ h => h) (Or.inl ⟨by rfl, ?_⟩) hS ?_
              rotate_left
              · (intro w' hSw; obtain ⟨hx, h1, h2⟩ := hSw; have x0 := hx.get 0 (.bool xr) rfl; have x1 := hx.get 1 (.bool xw) rfl; have x2 := hx.get 2 (.bool xx) rfl; have x3 := hx.get 3 (.bool xa) rfl; have x4 := hx.get 4 (.bool xn) rfl; have x5 := hx.get 5 (.int .i64 xs) rfl; have a0 := h1.get0 (.bool p0) (by decide) rfl; have a1 := h1.get 1 (.bool p1) (by decide) rfl; have a2 := h1.get 2 (.bool p2) (by decide) rfl; have a3 := h1.get 3 (.bool p3) (by decide) rfl; have a4 := h1.get 4 (.bool p4) (by decide) rfl; have a5 := h1.get 5 (.int .i64 p5) (by decide) rfl; have b0 := h2.get0 (.bool q0) (by decide) rfl; have b1 : w'.cell? ⟨ib, io + 7, none⟩ = some (.bool q1) := h2.get 1 (.bool q1) (by decide) rfl; have b2 : w'.cell? ⟨ib, io + 8, none⟩ = some (.bool q2) := h2.get 2 (.bool q2) (by decide) rfl; have b3 : w'.cell? ⟨ib, io + 9, none⟩ = some (.bool q3) := h2.get 3 (.bool q3) (by decide) rfl; have b4 : w'.cell? ⟨ib, io + 10, none⟩ = some (.bool q4) := h2.get 4 (.bool q4) (by decide) rfl; have b5 : w'.cell? ⟨ib, io + 11, none⟩ = some (.int .i64 q5) := h2.get 5 (.int .i64 q5) (by decide) rfl; clear hx h1 h2; go_simp; try with_reducible rfl)
              simp only [Act.put, List.setIfInBounds_toArray, List.set_cons_zero, List.set_cons_succ]
              refine wpAnyH_take (i := 8) (oi := ⟨some 77, _, _, _, _, _⟩) (v := ?_) rfl (by kernel_rfl) (by kernel_rfl) (by kernel_rfl) (fun _ _ _ h => h) (Or.inl ⟨by rfl, ?_⟩) hS ?_
              rotate_left
              · (intro w' hSw; obtain ⟨hx, h1, h2⟩ := hSw; have x0 := hx.get 0 (.bool xr) rfl; have x1 := hx.get 1 (.bool xw) rfl; have x2 := hx.get 2 (.bool xx) rfl; have x3 := hx.get 3 (.bool xa) rfl; have x4 := hx.get 4 (.bool xn) rfl; have x5 := hx.get 5 (.int .i64 xs) rfl; have a0 := h1.get0 (.bool p0) (by decide) rfl; have a1 := h1.get 1 (.bool p1) (by decide) rfl; have a2 := h1.get 2 (.bool p2) (by decide) rfl; have a3 := h1.get 3 (.bool p3) (by decide) rfl; have a4 := h1.get 4 (.bool p4) (by decide) rfl; have a5 := h1.get 5 (.int .i64 p5) (by decide) rfl; have b0 := h2.get0 (.bool q0) (by decide) rfl; have b1 : w'.cell? ⟨ib, io + 7, none⟩ = some (.bool q1) := h2.get 1 (.bool q1) (by decide) rfl; have b2 : w'.cell? ⟨ib, io + 8, none⟩ = some (.bool q2) := h2.get 2 (.bool q2) (by decide) rfl; have b3 : w'.cell? ⟨ib, io + 9, none⟩ = some (.bool q3) := h2.get 3 (.bool q3) (by decide) rfl; have b4 : w'.cell? ⟨ib, io + 10, none⟩ = some (.bool q4) := h2.get 4 (.bool q4) (by decide) rfl; have b5 : w'.cell? ⟨ib, io + 11, none⟩ = some (.int .i64 q5) := h2.get 5 (.int .i64 q5) (by decide) rfl; clear hx h1 h2; go_simp; try with_reducible rfl)
              simp only [Act.put, List.setIfInBounds_toArray, List.set_cons_zero, List.set_cons_succ]
              refine wpAnyH_take (i := 9) (oi := ⟨some 78, _, _, _, _, _⟩) (v := ?_) rfl (by kernel_rfl) (by kernel_rfl) (by kernel_rfl) (fun _ _ _ h => h) (Or.inl ⟨by rfl, ?_⟩) hS ?_
              rotate_left
              · (intro w' hSw; obtain ⟨hx, h1, h2⟩ := hSw; have x0 := hx.get 0 (.bool xr) rfl; have x1 := hx.get 1 (.bool xw) rfl; have x2 := hx.get 2 (.bool xx) rfl; have x3 := hx.get 3 (.bool xa) rfl; have x4 := hx.get 4 (.bool xn) rfl; have x5 := hx.get 5 (.int .i64 xs) rfl; have a0 := h1.get0 (.bool p0) (by decide) rfl; have a1 := h1.get 1 (.bool p1) (by decide) rfl; have a2 := h1.get 2 (.bool p2) (by decide) rfl; have a3 := h1.get 3 (.bool p3) (by decide) rfl; have a4 := h1.get 4 (.bool p4) (by decide) rfl; have a5 := h1.get 5 (.int .i64 p5) (by decide) rfl; have b0 := h2.get0 (.bool q0) (by decide) rfl; have b1 : w'.cell? ⟨ib, io + 7, none⟩ = some (.bool q1) := h2.get 1 (.bool q1) (by decide) rfl; have b2 : w'.cell? ⟨ib, io + 8, none⟩ = some (.bool q2) := h2.get 2 (.bool q2) (by decide) rfl; have b3 : w'.cell? ⟨ib, io + 9, none⟩ = some (.bool q3) := h2.get 3 (.bool q3) (by decide) rfl; have b4 : w'.cell? ⟨ib, io + 10, none⟩ = some (.bool q4) := h2.get 4 (.bool q4) (by decide) rfl; have b5 : w'.cell? ⟨ib, io + 11, none⟩ = some (.int .i64 q5) := h2.get 5 (.int .i64 q5) (by decide) rfl; clear hx h1 h2; go_simp; try with_reducible rfl)
              simp only [Act.put, List.setIfInBounds_toArray, List.set_cons_zero, List.set_cons_succ]
              refine wpAnyH_take (i := 10) (oi := ⟨some 79, _, _, _, _, _⟩) (v := ?_) rfl (by kernel_rfl) (by kernel_rfl) (by kernel_rfl) (fun _ _ _ h => h) (Or.inl ⟨by rfl, ?_⟩) hS ?_
              rotate_left
              · (intro w' hSw; obtain ⟨hx, h1, h2⟩ := hSw; have x0 := hx.get 0 (.bool xr) rfl; have x1 := hx.get 1 (.bool xw) rfl; have x2 := hx.get 2 (.bool xx) rfl; have x3 := hx.get 3 (.bool xa) rfl; have x4 := hx.get 4 (.bool xn) rfl; have x5 := hx.get 5 (.int .i64 xs) rfl; have a0 := h1.get0 (.bool p0) (by decide) rfl; have a1 := h1.get 1 (.bool p1) (by decide) rfl; have a2 := h1.get 2 (.bool p2) (by decide) rfl; have a3 := h1.get 3 (.bool p3) (by decide) rfl; have a4 := h1.get 4 (.bool p4) (by decide) rfl; have a5 := h1.get 5 (.int .i64 p5) (by decide) rfl; have b0 := h2.get0 (.bool q0) (by decide) rfl; have b1 : w'.cell? ⟨ib, io + 7, none⟩ = some (.bool q1) := h2.get 1 (.bool q1) (by decide) rfl; have b2 : w'.cell? ⟨ib, io + 8, none⟩ = some (.bool q2) := h2.get 2 (.bool q2) (by decide) rfl; have b3 : w'.cell? ⟨ib, io + 9, none⟩ = some (.bool q3) := h2.get 3 (.bool q3) (by decide) rfl; have b4 : w'.cell? ⟨ib, io + 10, none⟩ = some (.bool q4) := h2.get 4 (.bool q4) (by decide) rfl; have b5 : w'.cell? ⟨ib, io + 11, none⟩ = some (.int .i64 q5) := h2.get 5 (.int .i64 q5) (by decide) rfl; clear hx h1 h2; go_simp; try with_reducible rfl)
              simp only [Act.put, List.setIfInBounds_toArray, List.set_cons_zero, List.set_cons_succ]
              refine wpAnyH_take (i := 11) (oi := ⟨some 80, _, _, _, _, _⟩) (v := ?_) rfl (by kernel_rfl) (by kernel_rfl) (by kernel_rfl) (fun _ _ _ h => h) (Or.inl ⟨by rfl, ?_⟩) hS ?_
              rotate_left
              · (intro w' hSw; obtain ⟨hx, h1, h2⟩ := hSw; have x0 := hx.get 0 (.bool xr) rfl; have x1 := hx.get 1 (.bool xw) rfl; have x2 := hx.get 2 (.bool xx) rfl; have x3 := hx.get 3 (.bool xa) rfl; have x4 := hx.get 4 (.bool xn) rfl; have x5 := hx.get 5 (.int .i64 xs) rfl; have a0 := h1.get0 (.bool p0) (by decide) rfl; have a1 := h1.get 1 (.bool p1) (by decide) rfl; have a2 := h1.get 2 (.bool p2) (by decide) rfl; have a3 := h1.get 3 (.bool p3) (by decide) rfl; have a4 := h1.get 4 (.bool p4) (by decide) rfl; have a5 := h1.get 5 (.int .i64 p5) (by decide) rfl; have b0 := h2.get0 (.bool q0) (by decide) rfl; have b1 : w'.cell? ⟨ib, io + 7, none⟩ = some (.bool q1) := h2.get 1 (.bool q1) (by decide) rfl; have b2 : w'.cell? ⟨ib, io + 8, none⟩ = some (.bool q2) := h2.get 2 (.bool q2) (by decide) rfl; have b3 : w'.cell? ⟨ib, io + 9, none⟩ = some (.bool q3) := h2.get 3 (.bool q3) (by decide) rfl; have b4 : w'.cell? ⟨ib, io + 10, none⟩ = some (.bool q4) := h2.get 4 (.bool q4) (by decide) rfl; have b5 : w'.cell? ⟨ib, io + 11, none⟩ = some (.int .i64 q5) := h2.get 5 (.int .i64 q5) (by decide) rfl; clear hx h1 h2; go_simp; try with_reducible rfl)
              simp only [Act.put, List.setIfInBounds_toArray, List.set_cons_zero, List.set_cons_succ]
              refine wpAnyH_take (i := 12) (oi := ⟨some 81, _, _, _, _, _⟩) (v := ?_) rfl (by kernel_rfl) (by kernel_rfl) (by kernel_rfl) (fun _ _ _ h => h) (Or.inl ⟨by rfl, ?_⟩) hS ?_
              rotate_left
              · (intro w' hSw; obtain ⟨hx, h1, h2⟩ := hSw; have x0 := hx.get 0 (.bool xr) rfl; have x1 := hx.get 1 (.bool xw) rfl; have x2 := hx.get 2 (.bool xx) rfl; have x3 := hx.get 3 (.bool xa) rfl; have x4 := hx.get 4 (.bool xn) rfl; have x5 := hx.get 5 (.int .i64 xs) rfl; have a0 := h1.get0 (.bool p0) (by decide) rfl; have a1 := h1.get 1 (.bool p1) (by decide) rfl; have a2 := h1.get 2 (.bool p2) (by decide) rfl; have a3 := h1.get 3 (.bool p3) (by decide) rfl; have a4 := h1.get 4 (.bool p4) (by decide) rfl; have a5 := h1.get 5 (.int .i64 p5) (by decide) rfl; have b0 := h2.get0 (.bool q0) (by decide) rfl; have b1 : w'.cell? ⟨ib, io + 7, none⟩ = some (.bool q1) := h2.get 1 (.bool q1) (by decide) rfl; have b2 : w'.cell? ⟨ib, io + 8, none⟩ = some (.bool q2) := h2.get 2 (.bool q2) (by decide) rfl; have b3 : w'.cell? ⟨ib, io + 9, none⟩ = some (.bool q3) := h2.get 3 (.bool q3) (by decide) rfl; have b4 : w'.cell? ⟨ib, io + 10, none⟩ = some (.bool q4) := h2.get 4 (.bool q4) (by decide) rfl; have b5 : w'.cell? ⟨ib, io + 11, none⟩ = some (.int .i64 q5) := h2.get 5 (.int .i64 q5) (by decide) rfl; clear hx h1 h2; go_simp; try with_reducible rfl)
              simp only [Act.put, List.setIfInBounds_toArray, List.set_cons_zero, List.set_cons_succ]
              refine wpAnyH_take (i := 13) (oi := ⟨some 82, _, _, _, _, _⟩) (v := ?_) rfl (by kernel_rfl) (by kernel_rfl) (by kernel_rfl) (fun _ _ _ h => h) (Or.inl ⟨by rfl, ?_⟩) hS ?_
              rotate_left
              · (intro w' hSw; obtain ⟨hx, h1, h2⟩ := hSw; have x0 := hx.get 0 (.bool xr) rfl; have x1 := hx.get 1 (.bool xw) rfl; have x2 := hx.get 2 (.bool xx) rfl; have x3 := hx.get 3 (.bool xa) rfl; have x4 := hx.get 4 (.bool xn) rfl; have x5 := hx.get 5 (.int .i64 xs) rfl; have a0 := h1.get0 (.bool p0) (by decide) rfl; have a1 := h1.get 1 (.bool p1) (by decide) rfl; have a2 := h1.get 2 (.bool p2) (by decide) rfl; have a3 := h1.get 3 (.bool p3) (by decide) rfl; have a4 := h1.get 4 (.bool p4) (by decide) rfl; have a5 := h1.get 5 (.int .i64 p5) (by decide) rfl; have b0 := h2.get0 (.bool q0) (by decide) rfl; have b1 : w'.cell? ⟨ib, io + 7, none⟩ = some (.bool q1) := h2.get 1 (.bool q1) (by decide) rfl; have b2 : w'.cell? ⟨ib, io + 8, none⟩ = some (.bool q2) := h2.get 2 (.bool q2) (by decide) rfl; have b3 : w'.cell? ⟨ib, io + 9, none⟩ = some (.bool q3) := h2.get 3 (.bool q3) (by decide) rfl; have b4 : w'.cell? ⟨ib, io + 10, none⟩ = some (.bool q4) := h2.get 4 (.bool q4) (by decide) rfl; have b5 : w'.cell? ⟨ib, io + 11, none⟩ = some (.int .i64 q5) := h2.get 5 (.int .i64 q5) (by decide) rfl; clear hx h1 h2; go_simp; try with_reducible rfl)
              simp only [Act.put, List.setIfInBounds_toArray, List.set_cons_zero, List.set_cons_succ]
              refine wpAnyH_take (i := 14) (oi := ⟨some 83, _, _, _, _, _⟩) (v := ?_) rfl (by kernel_rfl) (by kernel_rfl) (by kernel_rfl) (fun _ _ _ h => h) (Or.inl ⟨by rfl, ?_⟩) hS ?_
              rotate_left
              · (intro w' hSw; obtain ⟨hx, h1, h2⟩ := hSw; have x0 := hx.get 0 (.bool xr) rfl; have x1 := hx.get 1 (.bool xw) rfl; have x2 := hx.get 2 (.bool xx) rfl; have x3 := hx.get 3 (.bool xa) rfl; have x4 := hx.get 4 (.bool xn) rfl; have x5 := hx.get 5 (.int .i64 xs) rfl; have a0 := h1.get0 (.bool p0) (by decide) rfl; have a1 := h1.get 1 (.bool p1) (by decide) rfl; have a2 := h1.get 2 (.bool p2) (by decide) rfl; have a3 := h1.get 3 (.bool p3) (by decide) rfl; have a4 := h1.get 4 (.bool p4) (by decide) rfl; have a5 := h1.get 5 (.int .i64 p5) (by decide) rfl; have b0 := h2.get0 (.bool q0) (by decide) rfl; have b1 : w'.cell? ⟨ib, io + 7, none⟩ = some (.bool q1) := h2.get 1 (.bool q1) (by decide) rfl; have b2 : w'.cell? ⟨ib, io + 8, none⟩ = some (.bool q2) := h2.get 2 (.bool q2) (by decide) rfl; have b3 : w'.cell? ⟨ib, io + 9, none⟩ = some (.bool q3) := h2.get 3 (.bool q3) (by decide) rfl; have b4 : w'.cell? ⟨ib, io + 10, none⟩ = some (.bool q4) := h2.get 4 (.bool q4) (by decide) rfl; have b5 : w'.cell? ⟨ib, io + 11, none⟩ = some (.int .i64 q5) := h2.get 5 (.int .i64 q5) (by decide) rfl; clear hx h1 h2; go_simp; try with_reducible rfl)
              simp only [Act.put, List.setIfInBounds_toArray, List.set_cons_zero, List.set_cons_succ]
              refine wpAnyH_take (i := 17) (oi := ⟨some 86, _, _, _, _, _⟩) (v := ?_) rfl (by kernel_rfl) (by kernel_rfl) (by kernel_rfl) (fun _ _ _ h => h) (Or.inl ⟨by rfl, ?_⟩) hS ?_
              rotate_left
              · (intro w' hSw; obtain ⟨hx, h1, h2⟩ := hSw; have x0 := hx.get 0 (.bool xr) rfl; have x1 := hx.get 1 (.bool xw) rfl; have x2 := hx.get 2 (.bool xx) rfl; have x3 := hx.get 3 (.bool xa) rfl; have x4 := hx.get 4 (.bool xn) rfl; have x5 := hx.get 5 (.int .i64 xs) rfl; have a0 := h1.get0 (.bool p0) (by decide) rfl; have a1 := h1.get 1 (.bool p1) (by decide) rfl; have a2 := h1.get 2 (.bool p2) (by decide) rfl; have a3 := h1.get 3 (.bool p3) (by decide) rfl; have a4 := h1.get 4 (.bool p4) (by decide) rfl; have a5 := h1.get 5 (.int .i64 p5) (by decide) rfl; have b0 := h2.get0 (.bool q0) (by decide) rfl; have b1 : w'.cell? ⟨ib, io + 7, none⟩ = some (.bool q1) := h2.get 1 (.bool q1) (by decide) rfl; have b2 : w'.cell? ⟨ib, io + 8, none⟩ = some (.bool q2) := h2.get 2 (.bool q2) (by decide) rfl; have b3 : w'.cell? ⟨ib, io + 9, none⟩ = some (.bool q3) := h2.get 3 (.bool q3) (by decide) rfl; have b4 : w'.cell? ⟨ib, io + 10, none⟩ = some (.bool q4) := h2.get 4 (.bool q4) (by decide) rfl; have b5 : w'.cell? ⟨ib, io + 11, none⟩ = some (.int .i64 q5) := h2.get 5 (.int .i64 q5) (by decide) rfl; clear hx h1 h2; go_simp; try with_reducible rfl)
              simp only [Act.put, List.setIfInBounds_toArray, List.set_cons_zero, List.set_cons_succ]
              refine wpAnyH_ready (rs := [15]) (by kernel_rfl) (by simp) ?_
              refine AllReadyH.cons (o := ⟨some 84, _, _, _, _, _⟩) rfl (fun K hK => ?_) AllReadyH.nil
              go_simp
              refine hK.out _ _ ?_ (fun hS' => ?_)
              · (exact ⟨hS.1.alloc _, hS.2.1.alloc _, hS.2.2.alloc _⟩)
              clear hK K hS
              have hS := hS'
              clear hS'
              try simp only [Act.put, List.setIfInBounds_toArray, List.set_cons_zero, List.set_cons_succ]
              refine wpAnyH_ready (rs := [16]) (by kernel_rfl) (by simp) ?_
              refine AllReadyH.cons (o := ⟨some 85, _, _, _, _, _⟩) rfl (fun K hK => ?_) AllReadyH.nil
              go_simp
              refine (HPB.out (some ⟨w7.heap.size, 0, none⟩) 2 2 [⟨p0, p1, p2, p3, p4, p5⟩, ⟨q0, q1, q2, q3, q4, q5⟩] _ (OwnR.made (K := KA) w7 w7.heap.size [⟨p0, p1, p2, p3, p4, p5⟩, ⟨q0, q1, q2, q3, q4, q5⟩] #[.bool p0, .bool p1, .bool p2, .bool p3, .bool p4, .int .i64 p5, .bool q0, .bool q1, .bool q2, .bool q3, .bool q4, .int .i64 q5] 2 (Nat.le_refl _) rfl (by simp) rfl).rows.2 rfl (by simp)).mono ?_
              rintro e w8 ⟨rfl, hb8⟩
              unfold atrV atrC
              simp only [HX0.out]
              refine hK.out _ _ ?_ (fun hS' => ?_)
              · (exact ⟨hS.1.below hb8, hS.2.1.below hb8, hS.2.2.below hb8⟩)
              clear hK K hS
              have hS := hS'
              clear hS'
              try simp only [Act.put, List.setIfInBounds_toArray, List.set_cons_zero, List.set_cons_succ]
              refine wpAnyH_take (i := 18) (oi := ⟨some 87, _, _, _, _, _⟩) (v := ?_) rfl (by kernel_rfl) (by kernel_rfl) (by kernel_rfl) (fun _ _ _ h => h) (Or.inl ⟨by rfl, ?_⟩) hS ?_
              rotate_left
              · (intro w' hSw; obtain ⟨hx, h1, h2⟩ := hSw; have x0 := hx.get 0 (.bool xr) rfl; have x1 := hx.get 1 (.bool xw) rfl; have x2 := hx.get 2 (.bool xx) rfl; have x3 := hx.get 3 (.bool xa) rfl; have x4 := hx.get 4 (.bool xn) rfl; have x5 := hx.get 5 (.int .i64 xs) rfl; have a0 := h1.get0 (.bool p0) (by decide) rfl; have a1 := h1.get 1 (.bool p1) (by decide) rfl; have a2 := h1.get 2 (.bool p2) (by decide) rfl; have a3 := h1.get 3 (.bool p3) (by decide) rfl; have a4 := h1.get 4 (.bool p4) (by decide) rfl; have a5 := h1.get 5 (.int .i64 p5) (by decide) rfl; have b0 := h2.get0 (.bool q0) (by decide) rfl; have b1 : w'.cell? ⟨ib, io + 7, none⟩ = some (.bool q1) := h2.get 1 (.bool q1) (by decide) rfl; have b2 : w'.cell? ⟨ib, io + 8, none⟩ = some (.bool q2) := h2.get 2 (.bool q2) (by decide) rfl; have b3 : w'.cell? ⟨ib, io + 9, none⟩ = some (.bool q3) := h2.get 3 (.bool q3) (by decide) rfl; have b4 : w'.cell? ⟨ib, io + 10, none⟩ = some (.bool q4) := h2.get 4 (.bool q4) (by decide) rfl; have b5 : w'.cell? ⟨ib, io + 11, none⟩ = some (.int .i64 q5) := h2.get 5 (.int .i64 q5) (by decide) rfl; clear hx h1 h2; go_simp; try with_reducible rfl)
              simp only [Act.put, List.setIfInBounds_toArray, List.set_cons_zero, List.set_cons_succ]
              refine wpAnyH_take (i := 19) (oi := ⟨some 88, _, _, _, _, _⟩) (v := ?_) rfl (by kernel_rfl) (by kernel_rfl) (by kernel_rfl) (fun _ _ _ h => h) (Or.inl ⟨by rfl, ?_⟩) hS ?_
              rotate_left
              · (intro w' hSw; obtain ⟨hx, h1, h2⟩ := hSw; have x0 := hx.get 0 (.bool xr) rfl; have x1 := hx.get 1 (.bool xw) rfl; have x2 := hx.get 2 (.bool xx) rfl; have x3 := hx.get 3 (.bool xa) rfl; have x4 := hx.get 4 (.bool xn) rfl; have x5 := hx.get 5 (.int .i64 xs) rfl; have a0 := h1.get0 (.bool p0) (by decide) rfl; have a1 := h1.get 1 (.bool p1) (by decide) rfl; have a2 := h1.get 2 (.bool p2) (by decide) rfl; have a3 := h1.get 3 (.bool p3) (by decide) rfl; have a4 := h1.get 4 (.bool p4) (by decide) rfl; have a5 := h1.get 5 (.int .i64 p5) (by decide) rfl; have b0 := h2.get0 (.bool q0) (by decide) rfl; have b1 : w'.cell? ⟨ib, io + 7, none⟩ = some (.bool q1) := h2.get 1 (.bool q1) (by decide) rfl; have b2 : w'.cell? ⟨ib, io + 8, none⟩ = some (.bool q2) := h2.get 2 (.bool q2) (by decide) rfl; have b3 : w'.cell? ⟨ib, io + 9, none⟩ = some (.bool q3) := h2.get 3 (.bool q3) (by decide) rfl; have b4 : w'.cell? ⟨ib, io + 10, none⟩ = some (.bool q4) := h2.get 4 (.bool q4) (by decide) rfl; have b5 : w'.cell? ⟨ib, io + 11, none⟩ = some (.int .i64 q5) := h2.get 5 (.int .i64 q5) (by decide) rfl; clear hx h1 h2; go_simp; try with_reducible rfl)
              simp only [Act.put, List.setIfInBounds_toArray, List.set_cons_zero, List.set_cons_succ]
              refine wpAnyH_take (i := 20) (oi := ⟨some 89, _, _, _, _, _⟩) (v := ?_) rfl (by kernel_rfl) (by kernel_rfl) (by kernel_rfl) (fun _ _ _ h => h) (Or.inl ⟨by rfl, ?_⟩) hS ?_
              rotate_left
              · (intro w' hSw; obtain ⟨hx, h1, h2⟩ := hSw; have x0 := hx.get 0 (.bool xr) rfl; have x1 := hx.get 1 (.bool xw) rfl; have x2 := hx.get 2 (.bool xx) rfl; have x3 := hx.get 3 (.bool xa) rfl; have x4 := hx.get 4 (.bool xn) rfl; have x5 := hx.get 5 (.int .i64 xs) rfl; have a0 := h1.get0 (.bool p0) (by decide) rfl; have a1 := h1.get 1 (.bool p1) (by decide) rfl; have a2 := h1.get 2 (.bool p2) (by decide) rfl; have a3 := h1.get 3 (.bool p3) (by decide) rfl; have a4 := h1.get 4 (.bool p4) (by decide) rfl; have a5 := h1.get 5 (.int .i64 p5) (by decide) rfl; have b0 := h2.get0 (.bool q0) (by decide) rfl; have b1 : w'.cell? ⟨ib, io + 7, none⟩ = some (.bool q1) := h2.get 1 (.bool q1) (by decide) rfl; have b2 : w'.cell? ⟨ib, io + 8, none⟩ = some (.bool q2) := h2.get 2 (.bool q2) (by decide) rfl; have b3 : w'.cell? ⟨ib, io + 9, none⟩ = some (.bool q3) := h2.get 3 (.bool q3) (by decide) rfl; have b4 : w'.cell? ⟨ib, io + 10, none⟩ = some (.bool q4) := h2.get 4 (.bool q4) (by decide) rfl; have b5 : w'.cell? ⟨ib, io + 11, none⟩ = some (.int .i64 q5) := h2.get 5 (.int .i64 q5) (by decide) rfl; clear hx h1 h2; go_simp; try with_reducible rfl)
              simp only [Act.put, List.setIfInBounds_toArray, List.set_cons_zero, List.set_cons_succ]
              refine wpAnyH_done (by kernel_rfl) ?_ _
              clear hS HOK PK
              have g1 : Below w.heap.size w w7 := bel_trans (Below.drew BB6.out) hb7
              have g2 : Below w.heap.size w w8 := bel_trans (bel_alloc g1 (.cells #[.bool p0, .bool p1, .bool p2, .bool p3, .bool p4, .int .i64 p5, .bool q0, .bool q1, .bool q2, .bool q3, .bool q4, .int .i64 q5] 30)) hb8
              have GG := Lib.hid g2
              clear g1 g2
              go_wp2
              go_roundw
              case rel => exact ⟨k + 1, by omega, by go_num, GG.out⟩
              case measure => simp [intOf]; omega
            · have d2 : ¬ ((p : Int) = 2) := by omega
              have e2 : ((p : Int) == 2) = false := by rw [beq_int]; exact decide_eq_false d2
              refine wp_region_held_drew (S := (fun w' => BoxAt w' pX #[.bool xr, .bool xw, .bool xx, .bool xa, .bool xn, .int .i64 xs] 30)) (by kernel_rfl) PK.drew (fun hS => ?_)
              refine wpAnyH_take (i := 0) (oi := ⟨some 69, _, _, _, _, _⟩) (v := ?_) rfl (by kernel_rfl) (by kernel_rfl) (by kernel_rfl) (fun _ _ _ h => h) (Or.inl ⟨by rfl, ?_⟩) hS ?_
              rotate_left
              · (intro w' hSw; have hx := hSw; have x0 := hx.get 0 (.bool xr) rfl; have x1 := hx.get 1 (.bool xw) rfl; have x2 := hx.get 2 (.bool xx) rfl; have x3 := hx.get 3 (.bool xa) rfl; have x4 := hx.get 4 (.bool xn) rfl; have x5 := hx.get 5 (.int .i64 xs) rfl; clear hx; go_simp; try with_reducible rfl)
              simp only [Act.put, List.setIfInBounds_toArray, List.set_cons_zero, List.set_cons_succ]
              refine wpAnyH_take (i := 2) (oi := ⟨some 71, _, _, _, _, _⟩) (v := ?_) rfl (by kernel_rfl) (by kernel_rfl) (by kernel_rfl) (fun _ _ _ h => h) (Or.inl ⟨by rfl, ?_⟩) hS ?_
              rotate_left
              · (intro w' hSw; have hx := hSw; have x0 := hx.get 0 (.bool xr) rfl; have x1 := hx.get 1 (.bool xw) rfl; have x2 := hx.get 2 (.bool xx) rfl; have x3 := hx.get 3 (.bool xa) rfl; have x4 := hx.get 4 (.bool xn) rfl; have x5 := hx.get 5 (.int .i64 xs) rfl; clear hx; go_simp; try with_reducible rfl)
              simp only [Act.put, List.setIfInBounds_toArray, List.set_cons_zero, List.set_cons_succ]
              refine wpAnyH_ready (rs := [1]) (by kernel_rfl) (by simp) ?_
              refine AllReadyH.cons (o := ⟨some 70, _, _, _, _, _⟩) rfl (fun K hK => ?_) AllReadyH.nil
              go_simp
              refine (HPR.out _ (HOK.rows.2.below (Below.drew (Below.refl _ _)))).mono ?_
              rintro e w7 ⟨rfl, hb7⟩
              refine hK.out _ _ ?_ (fun hS' => ?_)
              · (exact hS.below hb7)
              clear hK K hS
              have hS := hS'
              clear hS'
              try simp only [Act.put, List.setIfInBounds_toArray, List.set_cons_zero, List.set_cons_succ]
              refine wpAnyH_take (i := 3) (oi := ⟨some 72, _, _, _, _, _⟩) (v := ?_) rfl (by kernel_rfl) (by kernel_rfl) (by kernel_rfl) (fun _ _ _ h => h) (Or.inl ⟨by rfl, ?_⟩) hS ?_
              rotate_left
              · (intro w' hSw; have hx := hSw; have x0 := hx.get 0 (.bool xr) rfl; have x1 := hx.get 1 (.bool xw) rfl; have x2 := hx.get 2 (.bool xx) rfl; have x3 := hx.get 3 (.bool xa) rfl; have x4 := hx.get 4 (.bool xn) rfl; have x5 := hx.get 5 (.int .i64 xs) rfl; clear hx; go_simp; try with_reducible rfl)
              simp only [Act.put, List.setIfInBounds_toArray, List.set_cons_zero, List.set_cons_succ]
              refine wpAnyH_take (i := 4) (oi := ⟨some 73, _, _, _, _, _⟩) (v := ?_) rfl (by kernel_rfl) (by kernel_rfl) (by kernel_rfl) (fun _ _ _ h => h) (Or.inl ⟨by rfl, ?_⟩) hS ?_
              rotate_left
              · (intro w' hSw; have hx := hSw; have x0 := hx.get 0 (.bool xr) rfl; have x1 := hx.get 1 (.bool xw) rfl; have x2 := hx.get 2 (.bool xx) rfl; have x3 := hx.get 3 (.bool xa) rfl; have x4 := hx.get 4 (.bool xn) rfl; have x5 := hx.get 5 (.int .i64 xs) rfl; clear hx; go_simp; try with_reducible rfl)
              simp only [Act.put, List.setIfInBounds_toArray, List.set_cons_zero, List.set_cons_succ]
              refine wpAnyH_take (i := 5) (oi := ⟨some 74, _, _, _, _, _⟩) (v := ?_) rfl (by kernel_rfl) (by kernel_rfl) (by kernel_rfl) (fun _ _ _ h => h) (Or.inl ⟨by rfl, ?_⟩) hS ?_
              rotate_left
              · (intro w' hSw; have hx := hSw; have x0 := hx.get 0 (.bool xr) rfl; have x1 := hx.get 1 (.bool xw) rfl; have x2 := hx.get 2 (.bool xx) rfl; have x3 := hx.get 3 (.bool xa) rfl; have x4 := hx.get 4 (.bool xn) rfl; have x5 := hx.get 5 (.int .i64 xs) rfl; clear hx; go_simp; try with_reducible rfl)
              simp only [Act.put, List.setIfInBounds_toArray, List.set_cons_zero, List.set_cons_succ]
              refine wpAnyH_ready (rs := [6]) (by kernel_rfl) (by simp) ?_
              refine AllReadyH.cons (o := ⟨some 75, _, _, _, _, _⟩) rfl (fun K hK => ?_) AllReadyH.nil
              go_simp
              refine hK.out _ _ ?_ (fun hS' => ?_)
              · (exact hS)
              clear hK K hS
              have hS := hS'
              clear hS'
              try simp only [Act.put, List.setIfInBounds_toArray, List.set_cons_zero, List.set_cons_succ]
              refine wpAnyH_take (i := 7) (oi := ⟨some 76, _, _, _, _, _⟩) (v := ?_) rfl (by kernel_rfl) (by kernel_rfl) (by kernel_rfl) (fun _ _ _ h => h) (Or.inl ⟨by rfl, ?_⟩) hS ?_
              rotate_left
              · (intro w' hSw; have hx := hSw; have x0 := hx.get 0 (.bool xr) rfl; have x1 := hx.get 1 (.bool xw) rfl; have x2 := hx.get 2 (.bool xx) rfl; have x3 := hx.get 3 (.bool xa) rfl; have x4 := hx.get 4 (.bool xn) rfl; have x5 := hx.get 5 (.int .i64 xs) rfl; clear hx; go_simp; try with_reducible rfl)
              simp only [Act.put, List.setIfInBounds_toArray, List.set_cons_zero, List.set_cons_succ]
              refine wpAnyH_take (i := 8) (oi := ⟨some 77, _, _, _, _, _⟩) (v := ?_) rfl (by kernel_rfl) (by kernel_rfl) (by kernel_rfl) (fun _ _ _ h => h) (Or.inl ⟨by rfl, ?_⟩) hS ?_
              rotate_left
              · (intro w' hSw; have hx := hSw; have x0 := hx.get 0 (.bool xr) rfl; have x1 := hx.get 1 (.bool xw) rfl; have x2 := hx.get 2 (.bool xx) rfl; have x3 := hx.get 3 (.bool xa) rfl; have x4 := hx.get 4 (.bool xn) rfl; have x5 := hx.get 5 (.int .i64 xs) rfl; clear hx; go_simp; try with_reducible rfl)
              simp only [Act.put, List.setIfInBounds_toArray, List.set_cons_zero, List.set_cons_succ]
              refine wpAnyH_take (i := 9) (oi := ⟨some 78, _, _, _, _, _⟩) (v := undef) rfl (by kernel_rfl) (by kernel_rfl) (by kernel_rfl) (fun _ _ _ h => h) (Or.inr ⟨by rfl, rfl⟩) hS ?_
              simp only [Act.put, List.setIfInBounds_toArray, List.set_cons_zero, List.set_cons_succ]
              refine wpAnyH_take (i := 10) (oi := ⟨some 79, _, _, _, _, _⟩) (v := undef) rfl (by kernel_rfl) (by kernel_rfl) (by kernel_rfl) (fun _ _ _ h => h) (Or.inr ⟨by rfl, rfl⟩) hS ?_
              simp only [Act.put, List.setIfInBounds_toArray, List.set_cons_zero, List.set_cons_succ]
              refine wpAnyH_take (i := 11) (oi := ⟨some 80, _, _, _, _, _⟩) (v := undef) rfl (by kernel_rfl) (by kernel_rfl) (by kernel_rfl) (fun _ _ _ h => h) (Or.inr ⟨by rfl, rfl⟩) hS ?_
              simp only [Act.put, List.setIfInBounds_toArray, List.set_cons_zero, List.set_cons_succ]
              refine wpAnyH_take (i := 12) (oi := ⟨some 81, _, _, _, _, _⟩) (v := undef) rfl (by kernel_rfl) (by kernel_rfl) (by kernel_rfl) (fun _ _ _ h => h) (Or.inr ⟨by rfl, rfl⟩) hS ?_
              simp only [Act.put, List.setIfInBounds_toArray, List.set_cons_zero, List.set_cons_succ]
              refine wpAnyH_take (i := 13) (oi := ⟨some 82, _, _, _, _, _⟩) (v := undef) rfl (by kernel_rfl) (by kernel_rfl) (by kernel_rfl) (fun _ _ _ h => h) (Or.inr ⟨by rfl, rfl⟩) hS ?_
              simp only [Act.put, List.setIfInBounds_toArray, List.set_cons_zero, List.set_cons_succ]
              refine wpAnyH_take (i := 14) (oi := ⟨some 83, _, _, _, _, _⟩) (v := undef) rfl (by kernel_rfl) (by kernel_rfl) (by kernel_rfl) (fun _ _ _ h => h) (Or.inr ⟨by rfl, rfl⟩) hS ?_
              simp only [Act.put, List.setIfInBounds_toArray, List.set_cons_zero, List.set_cons_succ]
              refine wpAnyH_take (i := 15) (oi := ⟨some 84, _, _, _, _, _⟩) (v := undef) rfl (by kernel_rfl) (by kernel_rfl) (by kernel_rfl) (fun _ _ _ h => h) (Or.inr ⟨by rfl, rfl⟩) hS ?_
              simp only [Act.put, List.setIfInBounds_toArray, List.set_cons_zero, List.set_cons_succ]
              refine wpAnyH_take (i := 16) (oi := ⟨some 85, _, _, _, _, _⟩) (v := undef) rfl (by kernel_rfl) (by kernel_rfl) (by kernel_rfl) (fun _ _ _ h => h) (Or.inr ⟨by rfl, rfl⟩) hS ?_
              simp only [Act.put, List.setIfInBounds_toArray, List.set_cons_zero, List.set_cons_succ]
              refine wpAnyH_take (i := 17) (oi := ⟨some 86, _, _, _, _, _⟩) (v := undef) rfl (by kernel_rfl) (by kernel_rfl) (by kernel_rfl) (fun _ _ _ h => h) (Or.inr ⟨by rfl, rfl⟩) hS ?_
              simp only [Act.put, List.setIfInBounds_toArray, List.set_cons_zero, List.set_cons_succ]
              refine wpAnyH_take (i := 18) (oi := ⟨some 87, _, _, _, _, _⟩) (v := undef) rfl (by kernel_rfl) (by kernel_rfl) (by kernel_rfl) (fun _ _ _ h => h) (Or.inr ⟨by rfl, rfl⟩) hS ?_
              simp only [Act.put, List.setIfInBounds_toArray, List.set_cons_zero, List.set_cons_succ]
              refine wpAnyH_take (i := 19) (oi := ⟨some 88, _, _, _, _, _⟩) (v := ?_) rfl (by kernel_rfl) (by kernel_rfl) (by kernel_rfl) (fun _ _ _ h => h) (Or.inl ⟨by rfl, ?_⟩) hS ?_
              rotate_left
              · (intro w' hSw; have hx := hSw; have x0 := hx.get 0 (.bool xr) rfl; have x1 := hx.get 1 (.bool xw) rfl; have x2 := hx.get 2 (.bool xx) rfl; have x3 := hx.get 3 (.bool xa) rfl; have x4 := hx.get 4 (.bool xn) rfl; have x5 := hx.get 5 (.int .i64 xs) rfl; clear hx; go_simp; try with_reducible rfl)
              simp only [Act.put, List.setIfInBounds_toArray, List.set_cons_zero, List.set_cons_succ]
              refine wpAnyH_take (i := 20) (oi := ⟨some 89, _, _, _, _, _⟩) (v := ?_) rfl (by kernel_rfl) (by kernel_rfl) (by kernel_rfl) (fun _ _ _ h => h) (Or.inl ⟨by rfl, ?_⟩) hS ?_
              rotate_left
              · (intro w' hSw; have hx := hSw; have x0 := hx.get 0 (.bool xr) rfl; have x1 := hx.get 1 (.bool xw) rfl; have x2 := hx.get 2 (.bool xx) rfl; have x3 := hx.get 3 (.bool xa) rfl; have x4 := hx.get 4 (.bool xn) rfl; have x5 := hx.get 5 (.int .i64 xs) rfl; clear hx; go_simp; try with_reducible rfl)
              simp only [Act.put, List.setIfInBounds_toArray, List.set_cons_zero, List.set_cons_succ]
              refine wpAnyH_done (by kernel_rfl) ?_ _
              clear hS HOK PK
              have g1 : Below w.heap.size w w7 := bel_trans (Below.drew BB6.out) hb7
              have GG := Lib.hid g1
              clear g1
              go_wp2
              go_roundw
              case rel => exact ⟨k + 1, by omega, by go_num, GG.out⟩
              case measure => simp [intOf]; omega
          · rw [show (((j + 1 : Nat) : Int) - 1) = (j : Int) by omega] at hs7
            subst hs6
            subst hs7
            have hjL : j < L1.length := by rw [← hn1.out]; omega
            obtain ⟨t, ht⟩ : ∃ t, L1[j]? = some t := ⟨_, List.getElem?_eq_getElem hjL⟩
            have hrev : (L1.drop j).reverse = (L1.drop (j + 1)).reverse ++ [t] := by
              rw [List.drop_eq_getElem_cons hjL, List.reverse_cons]
              rw [List.getElem?_eq_getElem hjL] at ht
              rw [Option.some.inj ht]
            have HREV := Lib.hid hrev
            obtain ⟨ib, io, rfl, ri⟩ := (O5.out.below HB.out).rows.2 j t ht
            obtain ⟨ab, ao, rfl, ra0⟩ := RL5.out j t ht
            have hib : ib < w5.heap.size := by
              obtain ⟨_, _, he, r5⟩ := O5.out.rows.2 j t ht
              simp only [Option.some.injEq, Addr.mk.injEq, and_true] at he
              rw [he.1]
              exact r5.lt
            have hab : ab < w5.heap.size := ra0.lt
            have hbb : b < w5.heap.size := R5.out.lt
            have ra := ra0.below HB.out
            have rp := R5.out.below HB.out
            have ho := HO.out
            have hlen : p = ((L1.drop (j + 1)).reverse).length := ho.rows.1
            obtain ⟨tr, tw, tx, ta, tn, ts⟩ := t
            simp only [show KA.N = 6 from rfl] at ri ra
            have j1 : (0 : Int) ≤ (j : Int) := by omega
            have j2 : (j : Int) < (n1 : Int) := by omega
            have j3 : IntKind.i64.wrap ((j : Int) - 1) = (j : Int) - 1 := IntWalk.i64_in _ (by omega)
            have v0 := ri.get0 (.bool tr) (by decide) rfl
            have v1 := ri.get 1 (.bool tw) (by decide) rfl
            have v2 := ri.get 2 (.bool tx) (by decide) rfl
            have v3 := ri.get 3 (.bool ta) (by decide) rfl
            have v4 := ri.get 4 (.bool tn) (by decide) rfl
            have v5 := ri.get 5 (.int .i64 ts) (by decide) rfl
            have HZ := Lib.hid (BoxAt.new wr #[.bool tr, .bool tw, .bool tx, .bool ta, .bool tn, .int .i64 ts] 30)
            have OA := Lib.hid (ho.alloc (.cells #[.bool tr, .bool tw, .bool tx, .bool ta, .bool tn, .int .i64 ts] 30))
            have RIA := Lib.hid (ri.alloc (.cells #[.bool tr, .bool tw, .bool tx, .bool ta, .bool tn, .int .i64 ts] 30))
            have RAA := Lib.hid (ra.alloc (.cells #[.bool tr, .bool tw, .bool tx, .bool ta, .bool tn, .int .i64 ts] 30))
            have RPA := Lib.hid (rp.alloc (.cells #[.bool tr, .bool tw, .bool tx, .bool ta, .bool tn, .int .i64 ts] 30))
            have BA := Lib.hid (bel_alloc HB.out (.cells #[.bool tr, .bool tw, .bool tx, .bool ta, .bool tn, .int .i64 ts] 30))
            have hsA : w5.heap.size ≤ (wr.alloc (.cells #[.bool tr, .bool tw, .bool tx, .bool ta, .bool tn, .int .i64 ts] 30)).heap.size := BA.out.size
            have hq3 := eqA_self ⟨tr, tw, tx, ta, tn, ts⟩
            have HLEN := Lib.hid hlen
            have HM := Lib.hid hm
            have hp300 : p ≤ 300 := by omega
            clear ho ri ra ra0 rp ht hrev hjL hlen HO HB hm
            go_wp2_with (at_builtin; refine wpList_pushRn (K := KA) rfl _ _ rfl w5.heap.size p _ (L1.drop (j + 1)).reverse rfl OA.out HLEN.out wr.heap.size 1 ⟨tr, tw, tx, ta, tn, ts⟩ rfl (fun i hi => HZ.out.cell i) (by omega) hsA ?_; intro f4 c4 w6 hO6 hb6)
            have O6 := Lib.hid hO6
            have BA6 := Lib.hid (BA.out.trans hb6)
            have ri := RIA.out.under hb6 hib
            have ra := RAA.out.under hb6 hab
            have rp := RPA.out.under hb6 hbb
            clear v0 v1 v2 v3 v4 v5 hO6 hb6 RIA RAA RPA BA HZ OA hsA
            have v0 := ri.get0 (.bool tr) (by decide) rfl
            have v1 := ri.get 1 (.bool tw) (by decide) rfl
            have v2 := ri.get 2 (.bool tx) (by decide) rfl
            have v3 := ri.get 3 (.bool ta) (by decide) rfl
            have v4 := ri.get 4 (.bool tn) (by decide) rfl
            have v5 := ri.get 5 (.int .i64 ts) (by decide) rfl
            have a0 := ra.get0 (.bool tr) (by decide) rfl
            have a1 := ra.get 1 (.bool tw) (by decide) rfl
            have a2 := ra.get 2 (.bool tx) (by decide) rfl
            have a3 := ra.get 3 (.bool ta) (by decide) rfl
            have a4 := ra.get 4 (.bool tn) (by decide) rfl
            have a5 := ra.get 5 (.int .i64 ts) (by decide) rfl
            have y0 := rp.get0 (.slice (some ⟨ab, ao, none⟩) n1 c1) (by decide) rfl
            clear ri ra rp
            go_quiet (fail)
            go_wp2
            go_roundw
            case rel => exact ⟨j, p + 1, f4, c4, by have := HM.out; omega, rfl, rfl, by show OwnR _ _ _ _ _; rw [HREV.out]; exact O6.out, below_drewN BA6.out _⟩
            case measure => (simp [intOf] <;> omega)
    · by_cases hq : k < len
      · have hq' : decide ((k : Int) < 15) = false := decide_eq_false (by omega)
        have HB := Lib.hid hb
        clear hb
        go_wp2_with (go_at_call 12; refine (HW6.out _).mono ?_; rintro e w2 ⟨rfl, hb2⟩)
        go_ret
        exact ⟨rfl, bel_trans HB.out hb2⟩
      · have HB := Lib.hid hb
        clear hb
        go_wp2_with (go_at_call 12; refine (HW6.out _).mono ?_; rintro e w2 ⟨rfl, hb2⟩)
        go_ret
        exact ⟨rfl, bel_trans HB.out hb2⟩
end Go.Proofs.Ytnklpfnmpnaegaa
