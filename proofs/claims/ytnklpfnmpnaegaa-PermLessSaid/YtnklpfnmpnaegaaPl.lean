/- The walk of PermLess. -/
import Derived.Test.YtnklpfnmpnaegaaPn
import Derived.Deep.CutBlock
import Derived.Deep.DeepCutAuto
namespace Go.Proofs.Ytnklpfnmpnaegaa
open Go.ChangeShapes Go.WideShapes Go.ChangeAt Go.RowKit Go.Deep

set_option maxRecDepth 100000 in
set_option maxHeartbeats 12800000 in
theorem less_walk (PB : BothC) (f : Option Addr) (len cap : Nat) (q : Nat → Q6) (w : World) (hQ : SeqAt 5 ask6V Ok6 w f len q) :
    Calls Try.prog 5 #[.slice f len cap] w fun e w' => e = .returned (.bool true) ∧ Below w.heap.size w w' := by
  have HW6 := Lib.hid (fun W => wakes6_any PB W)
  have HQ := Lib.hid hQ
  have HPB := Lib.hid PB
  clear hQ PB
  go_enter Try.func5, Try.ntmps5
  go_wp2
  go_loopw [3] (fun i wr => ∃ k : Nat, k ≤ len ∧ i = .int .i64 k ∧ Below w.heap.size w wr) (fun i _ => len - (intOf i).toNat)
  case atStart => exact ⟨0, Nat.zero_le _, rfl, Below.refl _ _⟩
  case round =>
    obtain ⟨k, hk, rfl, hb⟩ := hrel
    by_cases hlt : k < len ∧ k < 15
    · obtain ⟨hlt, hlt'⟩ := hlt
      obtain ⟨b, o, rfl, hr, hok⟩ := HQ.out k hlt
      generalize q k = qk at *
      obtain ⟨f1, n1, c1, L1, acc1, st, lv, pg⟩ := qk
      have HR := Lib.hid (hr.below hb)
      have y0 := HR.out.get0 (.slice f1 n1 c1) (by decide) rfl
      have i1 : (0 : Int) ≤ (k : Int) := by omega
      have i2 : (k : Int) < (len : Int) := by omega
      have d15 : decide ((k : Int) < 15) = true := decide_eq_true (by omega)
      have hn1 : Hid (n1 = L1.length) := hok.len
      have hnil : Hid (f1 = none → c1 = 0) := hok.nil
      have RL : Hid (RowsAt KA wr f1 L1) := Lib.hid (hok.rows.below hb)
      have B0 := Lib.hid hb
      clear hok hb hr
      by_cases h300 : 300 < n1
      · have d300 : decide ((300 : Int) < (n1 : Int)) = true := decide_eq_true (by omega)
        go_wp2
        go_ret
        exact ⟨rfl, B0.out⟩
      · have d300 : decide ((300 : Int) < (n1 : Int)) = false := decide_eq_false (by omega)
        go_wp2_with fail
        refine (HPB.out f1 n1 c1 L1 wr RL.out hn1.out (by rw [← hn1.out]; omega)).mono ?_
        rintro e w3 ⟨rfl, hb3⟩
        unfold atrV atrC
        have HLE := Lib.hid (fun t (ht : t ∈ L1) => both_le ht)
        obtain ⟨x0, hx0⟩ : ∃ x0, bothL L1 = x0 := ⟨_, rfl⟩
        rw [hx0]
        rw [hx0] at HLE
        clear hx0 y0
        obtain ⟨xr, xw, xx, xa, xn, xs⟩ := x0
        simp only
        simp only at HLE
        have X4 := Lib.hid (BoxAt.new w3 #[.bool xr, .bool xw, .bool xx, .bool xa, .bool xn, .int .i64 xs] 30)
        have hb4 := bel_alloc hb3 (.cells #[.bool xr, .bool xw, .bool xx, .bool xa, .bool xn, .int .i64 xs] 30)
        have R4 := Lib.hid (HR.out.below hb4)
        have RL4 := Lib.hid (RL.out.below hb4)
        have BB4 := Lib.hid (bel_trans B0.out hb4)
        clear hb3 hb4 HR RL B0
        go_upto_region 7 with fail
        obtain ⟨W4, hW4⟩ : ∃ W4, W4 = w3.alloc (.cells #[.bool xr, .bool xw, .bool xx, .bool xa, .bool xn, .int .i64 xs] 30) := ⟨_, rfl⟩
        obtain ⟨pX, hpX⟩ : ∃ pX, pX = w3.heap.size := ⟨_, rfl⟩
        rw [← hW4] at X4 R4 RL4 BB4 ⊢
        rw [← hpX] at X4 ⊢
        clear hW4 hpX
        go_wp2_with fail
        obtain ⟨wa, rfl⟩ : ∃ wa : World, wa = wr := ⟨_, rfl⟩
        go_loopw [5] (fun i wi => ∃ j : Nat, j ≤ n1 ∧ i = .int .i64 j ∧ Below W4.heap.size W4 wi) (fun i _ => n1 - (intOf i).toNat)
        case atStart => exact ⟨0, Nat.zero_le _, rfl, Below.refl _ _⟩
        case round =>
          obtain ⟨j, hj, rfl, hb⟩ := hrel
          have hR5 := R4.out.below hb
          have y0 := hR5.get0 (.slice f1 n1 c1) (by decide) rfl
          by_cases hjl : j < n1
          · have hq : ∃ t, L1[j]? = some t := ⟨_, List.getElem?_eq_getElem (by rw [← hn1.out]; exact hjl)⟩
            obtain ⟨t, ht⟩ := hq
            have hle := HLE.out t (List.mem_of_getElem? ht)
            obtain ⟨ab, ao, rfl, hra⟩ := RL4.out j t ht
            have hra := hra.below hb
            obtain ⟨tr, tw, tx, ta, tn, ts⟩ := t
            simp only [show KA.N = 6 from rfl] at hra
            simp only at hle
            have i3 : (0 : Int) ≤ (j : Int) := by omega
            have i4 : (j : Int) < (n1 : Int) := by omega
            have a0 := hra.get0 (.bool tr) (by decide) rfl
            have a1 := hra.get 1 (.bool tw) (by decide) rfl
            have a2 := hra.get 2 (.bool tx) (by decide) rfl
            have a3 := hra.get 3 (.bool ta) (by decide) rfl
            have a4 := hra.get 4 (.bool tn) (by decide) rfl
            have a5 := hra.get 5 (.int .i64 ts) (by decide) rfl
            have X5 := Lib.hid ((X4.out.below hb).alloc (.cells #[.bool tr, .bool tw, .bool tx, .bool ta, .bool tn, .int .i64 ts] 30))
            have A5 := Lib.hid (BoxAt.new wr #[.bool tr, .bool tw, .bool tx, .bool ta, .bool tn, .int .i64 ts] 30)
            have B5 := Lib.hid (bel_alloc hb (.cells #[.bool tr, .bool tw, .bool tx, .bool ta, .bool tn, .int .i64 ts] 30))
            clear ht hra hb hR5
            go_upto_region 11 with fail
            clear y0 a0 a1 a2 a3 a4 a5
            obtain ⟨W5, hW5⟩ : ∃ W5, W5 = wr.alloc (.cells #[.bool tr, .bool tw, .bool tx, .bool ta, .bool tn, .int .i64 ts] 30) := ⟨_, rfl⟩
            obtain ⟨pA, hpA⟩ : ∃ pA, pA = wr.heap.size := ⟨_, rfl⟩
            rw [← hW5] at X5 A5 B5 ⊢
            rw [← hpA] at A5 ⊢
            clear hW5 hpA
            have c1' : xr = false ∨ (xr = true ∧ tr = true) := by cases xr <;> simp_all
            have c2' : xw = false ∨ (xw = true ∧ tw = true) := by cases xw <;> simp_all
            have c3' : xx = false ∨ (xx = true ∧ tx = true) := by cases xx <;> simp_all
            have c4' : xa = false ∨ (xa = true ∧ ta = true) := by cases xa <;> simp_all
            have c5' : tn = false ∨ (tn = true ∧ xn = true) := by cases tn <;> simp_all
            clear hle
            go_cut [91] (fun s91 wx => s91 = .bool false ∧ wx = W5)
            case first =>
              clear HLE HPB HW6 HQ X4 R4 RL4 BB4 B5
              rcases c1' with rfl | ⟨rfl, rfl⟩ <;> rcases c2' with rfl | ⟨rfl, rfl⟩ <;> rcases c3' with rfl | ⟨rfl, rfl⟩ <;> rcases c4' with rfl | ⟨rfl, rfl⟩ <;> rcases c5' with rfl | ⟨rfl, rfl⟩
              all_goals
                have x0 := X5.out.get 0 _ rfl
                have z0 := A5.out.get 0 _ rfl
                have x1 := X5.out.get 1 _ rfl
                have z1 := A5.out.get 1 _ rfl
                have x2 := X5.out.get 2 _ rfl
                have z2 := A5.out.get 2 _ rfl
                have x3 := X5.out.get 3 _ rfl
                have z3 := A5.out.get 3 _ rfl
                have x4 := X5.out.get 4 _ rfl
                have z4 := A5.out.get 4 _ rfl
                have x5 := X5.out.get 5 _ rfl
                have z5 := A5.out.get 5 _ rfl
                go_wp2_with fail
                go_meet
                exact ⟨rfl, rfl⟩
            case rest =>
              obtain ⟨rfl, rfl⟩ := hcut
              go_wp2
              go_roundw
              case rel => exact ⟨j + 1, by omega, by go_num, B5.out⟩
              case measure => simp [intOf]; omega
          · have hjn : ¬ ((j : Int) < (n1 : Int)) := by omega
            have dj : decide ((j : Int) < (n1 : Int)) = false := decide_eq_false hjn
            have OZ := Lib.hid (OwnR.made (K := KA) wr wr.heap.size [atr0] #[.bool false, .bool false, .bool false, .bool false, .bool false, .int .i64 0] 1 (Nat.le_refl _) rfl (by decide) rfl)
            have RLZ := Lib.hid ((RL4.out.below hb).below (bel_alloc (Below.refl _ _) (.cells #[.bool false, .bool false, .bool false, .bool false, .bool false, .int .i64 0] 30)))
            have RZ := Lib.hid (hR5.alloc (.cells #[.bool false, .bool false, .bool false, .bool false, .bool false, .int .i64 0] 30))
            have z0 := RZ.out.get0 (.slice f1 n1 c1) (by decide) rfl
            have BZ := Lib.hid (bel_trans BB4.out (bel_alloc hb (.cells #[.bool false, .bool false, .bool false, .bool false, .bool false, .int .i64 0] 30)))
            have hsZ : wr.heap.size ≤ (wr.alloc (.cells #[.bool false, .bool false, .bool false, .bool false, .bool false, .int .i64 0] 30)).heap.size := by simp
            have hsB : w.heap.size ≤ wr.heap.size := Nat.le_trans BB4.out.size hb.size
            have HPY := Lib.hid (fun W f' c' (hW : RowsAt KA W f' (atr0 :: L1)) => HPB.out f' (n1 + 1) c' (atr0 :: L1) W hW (by rw [List.length_cons, ← hn1.out]) (by rw [List.length_cons, ← hn1.out]; omega))
            obtain ⟨yn, hyn⟩ := both_no L1
            unfold atrV atrC at HPY
            simp only [hyn] at HPY
            clear hyn hb hR5
            go_wp2_with (at_builtin; refine wpList_headR (K := KA) rfl _ _ rfl wr.heap.size wr.heap.size 1 atr0 L1 rfl OZ.out f1 n1 c1 rfl hn1.out RLZ.out hnil.out (by omega) hsZ ?_; intro f4 c4 w6 hO6 hb6; have O6 := Lib.hid hO6; have B6 := Lib.hid (BZ.out.trans (hb6.mono hsB)); clear hO6 hb6 y0 z0 OZ RLZ RZ BZ hsZ)
            refine (HPY.out _ f4 c4 O6.out.rows.2).mono ?_
            rintro e w7 ⟨rfl, hb7⟩
            have B7 := Lib.hid (bel_alloc (bel_trans B6.out hb7) (.cells #[.bool false, .bool false, .bool false, .bool false, .bool yn, .int .i64 0] 30))
            clear hb7
            go_wp2
            go_roundw
            case rel => exact ⟨k + 1, by omega, by go_num, B7.out⟩
            case measure => simp [intOf]; omega
    · by_cases hq : k < len
      · have hq' : decide ((k : Int) < 15) = false := decide_eq_false (by omega)
        have HB := Lib.hid hb
        clear hb
        go_wp2_with (go_at_call 12; refine (HW6.out _).mono ?_; rintro e w2 ⟨rfl, hb2⟩)
        go_ret
        exact ⟨rfl, bel_trans HB.out hb2⟩
      · have HB := Lib.hid hb
        clear hb
        go_wp2_with (go_at_call 12; refine (HW6.out _).mono ?_; rintro e w2 ⟨rfl, hb2⟩)
        go_ret
        exact ⟨rfl, bel_trans HB.out hb2⟩
end Go.Proofs.Ytnklpfnmpnaegaa
