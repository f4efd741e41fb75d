/- The walk of WordJoins. -/
import Derived.Test.YtgbkgapjmmadoaaCopyF
namespace Go.Proofs.Ytgbkgapjmmadoaa
open Go.ChangeShapes Go.WideShapes Go.ChangeAt Go.RowKit

@[go_sem] theorem u_not_if (x : BitVec 64) : bits .xor .u64 (if IntKind.u64.signed = true then -1 else IntKind.u64.max) (u x) = u (~~~ x) := u_not x

theorem join_nil (w : World) :
    Calls Try.prog 18 #[.slice none 0 0] w fun e w' => e = .returned (.tuple #[.int .u64 0, .int .i64 0]) ∧ Below w.heap.size w w' :=
  join_any none 0 0 (fun _ => default) w (by omega) (fun j hj => absurd hj (by omega))
theorem free_nil (w : World) :
    Calls Try.prog 19 #[.slice none 0 0] w fun e w' => e = .returned (.tuple #[.int .u64 18446744073709551615, .int .i64 0]) ∧ Below w.heap.size w w' :=
  free_any none 0 0 (fun _ => default) w (by omega) (fun j hj => absurd hj (by omega))

theorem joins_empty (a : Option Addr) (cap : Nat) (w : World) :
    Calls Try.prog 5 #[.slice a 0 cap] w fun e w' => e = .returned (.bool true) ∧ Below w.heap.size w w' := by
  go_enter Try.func5, Try.ntmps5
  go_wp2
  refine wp_loop_rounds 1 ?_
  rw [rounds_succ]
  go_wp2_with (first
    | (go_at_call 18; refine (join_nil _).mono ?_; rintro e w1 ⟨rfl, hb1⟩)
    | (go_at_call 19; refine (free_nil _).mono ?_; rintro e w2 ⟨rfl, hb2⟩)
    | (go_at_call 10; refine (num_any _ _).mono ?_; rintro e w7 ⟨rfl, rfl⟩)
    | (go_at_call 13; refine (wakes_any _).mono ?_; rintro e w3 ⟨rfl, hb3⟩))
  go_ret
  exact ⟨rfl, bel_trans (bel_trans (bel_trans (Below.refl _ _) hb1) hb2) hb3⟩

theorem keep_new {w5 w6 : World} {C : Obj} {g : Nat} (hb : Below (w5.alloc C).drew.heap.size (w5.alloc C).drew w6) (hg : g < w5.heap.size) (o : Nat) : w6.cell? ⟨g, o, none⟩ = w5.cell? ⟨g, o, none⟩ :=
  (hb.cell (p := ⟨g, o, none⟩) (by show g < (w5.alloc C).heap.size; simp; omega)).trans (World.cell?_alloc_past C g o hg)

theorem flds_new3 (W : World) (X : Nat → Fld) (a0 n0 a1 n1 a2 n2 : Int) (v0 v1 v2 : BitVec 64) (h0 : X 0 = ⟨a0, n0, v0⟩) (h1 : X 1 = ⟨a1, n1, v1⟩) (h2 : X 2 = ⟨a2, n2, v2⟩)
    (hx : ∀ j, j < 3 → (X j).n ≤ 9223372036854775807 ∧ -9223372036854775808 ≤ (X j).n ∧ (X j).a ≤ 9223372036854775807 ∧ -9223372036854775808 ≤ (X j).a) :
    FldsAt (W.alloc (.cells #[.int .i64 a0, .int .i64 n0, .int .u64 (u v0), .int .i64 a1, .int .i64 n1, .int .u64 (u v1), .int .i64 a2, .int .i64 n2, .int .u64 (u v2)] 39)) (some ⟨W.heap.size, 0, none⟩) 3 X := by
  intro j hj
  refine ⟨_, _, rfl, ?_⟩
  obtain ⟨x1, x2, x3, x4⟩ := hx j hj
  match j, hj with
  | 0, _ => rw [h0] at *; exact ⟨by simp, by simp [go_sem], by simp [go_sem], by simp [go_sem], x1, x2, x3, x4⟩
  | 1, _ => rw [h1] at *; exact ⟨by simp, by simp [go_sem], by simp [go_sem], by simp [go_sem], x1, x2, x3, x4⟩
  | 2, _ => rw [h2] at *; exact ⟨by simp, by simp [go_sem], by simp [go_sem], by simp [go_sem], x1, x2, x3, x4⟩

set_option maxRecDepth 100000 in
set_option maxHeartbeats 3200000 in
theorem joins_walk (b off len cap : Nat) (w : World) (V : Nat → BitVec 64) (F : Nat → Option Addr) (L C : Nat → Nat) (A N : Nat → Int)
    (hc : ∀ i, i < len → AskAt w b (off + i * 4) (V i) (F i) (L i) (C i) (A i) (N i) ∧ FieldsAt w (F i) (L i) ∧ (F i = none → L i = 0 ∧ C i = 0)) :
    Calls Try.prog 5 #[.slice (some ⟨b, off, none⟩) len cap] w fun e w' => e = .returned (.bool true) ∧ Below w.heap.size w w' := by
  have HC := Lib.hid hc
  clear hc
  go_enter Try.func5, Try.ntmps5
  go_wp2
  go_loopw [3] (fun i wr => ∃ k : Nat, k ≤ len ∧ i = .int .i64 k ∧ Below w.heap.size w wr) (fun i _ => len - (intOf i).toNat)
  case atStart => exact ⟨0, Nat.zero_le _, rfl, Below.refl _ _⟩
  case round =>
    obtain ⟨k, hk, rfl, hb⟩ := hrel
    by_cases hlt : k < len ∧ k < 15
    · obtain ⟨hlt, hlt'⟩ := hlt
      have ha := (HC.out k hlt).1.below hb
      have hF := (HC.out k hlt).2.1.below hb
      have HN := Lib.hid (HC.out k hlt).2.2
      obtain ⟨X, hX⟩ := flds_of hF
      have HX := Lib.hid hX
      have HA := Lib.hid ha
      clear hF hX
      obtain ⟨h1, h2, h3, h4, h5, h6, h7, h8, h9⟩ := ha
      generalize V k = vk at *
      generalize A k = ak at *
      generalize N k = nk at *
      generalize F k = fk at *
      generalize L k = lk at *
      generalize C k = ck at *
      have hB := Lib.hid hb
      clear hb
      by_cases hheavy : 200 < lk
      · go_wp2_with (go_at_call 14; refine (heavy_any _ _ _ _ _ _ _).mono ?_; rintro e w1 ⟨rfl, rfl⟩)
        go_ret
        exact ⟨rfl, bel_alloc hB.out _⟩
      · have hw2 := bel_alloc (bel_alloc (Below.refl wr.heap.size wr) (.cells #[.int .u64 (u vk), .slice fk lk ck, .int .i64 ak, .int .i64 nk] 26)) (.cells #[] 39)
        have O1 : Hid (((wr.alloc (.cells #[.int .u64 (u vk), .slice fk lk ck, .int .i64 ak, .int .i64 nk] 26)).alloc (.cells #[] 39)).ownsRow wr.heap.size 39 3 (.slice (some ⟨wr.heap.size + 1, 0, none⟩) 0 0) 0 []) := by
          have := World.ownsRow_made (base := wr.heap.size) (e := 39) (size := 3) (wr.alloc (.cells #[.int .u64 (u vk), .slice fk lk ck, .int .i64 ak, .int .i64 nk] 26)) #[] 0 (by simp) (by unfold maxLen; omega) rfl
          have this' : (World.ownsRow _ _ _ _ _ _ _) := this
          rw [show (wr.alloc (Obj.cells #[.int .u64 (u vk), .slice fk lk ck, .int .i64 ak, .int .i64 nk] 26)).heap.size = wr.heap.size + 1 from by simp] at this'
          exact this'
        have O2 := Lib.hid (HX.out.below hw2)
        have O3 : Hid (wr.heap.size ≤ ((wr.alloc (.cells #[.int .u64 (u vk), .slice fk lk ck, .int .i64 ak, .int .i64 nk] 26)).alloc (.cells #[] 39)).heap.size) := hw2.size
        have O4 := Lib.hid hw2
        clear hw2
        go_wp2_with (first
          | (go_at_call 14; refine (heavy_any _ _ _ _ _ _ _).mono ?_; rintro e w1 ⟨rfl, rfl⟩)
          | (at_builtin; refine wpList_copyF rfl _ _ rfl wr.heap.size (wr.heap.size + 1) 0 rfl O1.out _ _ _ rfl HN.out X O2.out (by omega) O3.out ?_; intro v' w1 hcopy))
        obtain ⟨hb1, _, g, cp, hv, hg, hF1⟩ := hcopy
        have hb2 : Below wr.heap.size wr w1 := O4.out.trans hb1
        have HA1 := Lib.hid (HA.out.below hb2)
        have HX1 := Lib.hid (HX.out.below hb2)
        have B1 := Lib.hid (bel_trans hB.out hb2)
        have HF1 := Lib.hid hF1
        clear hb1 hb2 hF1 O1 O2 O3 O4 h1 h2 h3 h4 h5 HA HX hB
        have J := fun (f : Option Addr) (c : Nat) (W : World) (h : FldsAt W f lk X) => join_any f lk c X W (by omega) h
        have FR := fun (f : Option Addr) (c : Nat) (W : World) (h : FldsAt W f lk X) => free_any f lk c X W (by omega) h
        have RJ := fun (f : Option Addr) (c : Nat) (W : World) (h : FldsAt W f lk X) => rjoin_any f lk c X W (by omega) h
        generalize layR X lk = R at J FR RJ
        obtain ⟨rh, rb, re⟩ := R
        unfold tup3r at RJ
        simp only at J FR RJ
        have HJ := Lib.hid J
        have HRJ := Lib.hid RJ
        clear J RJ
        subst hv
        refine (HJ.out _ _ _ HF1.out).mono ?_
        rintro e w2 ⟨rfl, hb2⟩
        have HA2 := Lib.hid (HA1.out.below hb2)
        have HX2 := Lib.hid (HX1.out.below hb2)
        have HF2 := Lib.hid (HF1.out.below hb2)
        have B2 := Lib.hid (bel_trans B1.out hb2)
        clear hb2 HA1 HX1 HF1 B1
        by_cases hz : re = 0
        · subst hz
          simp only [if_true] at FR
          have HFR := Lib.hid FR
          clear FR
          go_wp2_with fail
          refine (HFR.out _ _ _ HF2.out).mono ?_
          rintro e w3 ⟨rfl, hb3⟩
          have HA3 := Lib.hid (HA2.out.below hb3)
          have HX3 := Lib.hid (HX2.out.below hb3)
          have HF3 := Lib.hid (HF2.out.below hb3)
          have B3 := Lib.hid (bel_trans B2.out hb3)
          clear hb3 HA2 HX2 HF2 B2 HFR
          obtain ⟨h1, h2, h3, h4, h5, _, _, _, _⟩ := HA3.out
          go_wp2_with fail
          refine (HRJ.out _ _ _ HX3.out).mono ?_
          rintro e w4 ⟨rfl, hb4⟩
          have HA4 := Lib.hid (HA3.out.below hb4)
          have HX4 := Lib.hid (HX3.out.below hb4)
          have HF4 := Lib.hid (HF3.out.below hb4)
          have B4 := Lib.hid (bel_trans B3.out hb4)
          clear hb4 HA3 HX3 HF3 B3 HRJ h1 h2 h3 h4 h5
          go_wp2_with (go_at_call 10; refine (num_any _ _).mono ?_; rintro e w5 ⟨rfl, rfl⟩)
          go_loopw [13] (fun i wi => ∃ j : Nat, j ≤ lk ∧ i = .int .i64 j ∧ Below w4.heap.size w4 wi) (fun i _ => lk - (intOf i).toNat)
          case atStart => exact ⟨0, Nat.zero_le _, rfl, Below.refl _ _⟩
          case round =>
            obtain ⟨j, hj, rfl, hbj⟩ := hrel
            have HA5 := Lib.hid (HA4.out.below hbj)
            have HX5 := Lib.hid (HX4.out.below hbj)
            have HF5 := Lib.hid (HF4.out.below hbj)
            have B5 := Lib.hid (bel_trans B4.out hbj)
            have HBJ := Lib.hid hbj
            clear hbj
            obtain ⟨w5, rfl⟩ : ∃ w5 : World, w5 = wr := ⟨_, rfl⟩
            by_cases hjl : j < lk
            · obtain ⟨h1, h2, h3, h4, h5, _, _, _, _⟩ := HA5.out
              obtain ⟨bf, of, hfk, hf⟩ := HX5.out j hjl
              obtain ⟨bg, og, hgk, hgf⟩ := HF5.out j hjl
              simp at hgk
              obtain ⟨rfl, rfl⟩ := hgk
              subst hfk
              obtain ⟨g1, g2, g3, g4, _, _, _, _⟩ := hf
              obtain ⟨f1, f2, f3, f4, _, _, _, _⟩ := hgf
              rw [Nat.zero_add] at f2 f3 f4
              cases hx : X j with
              | mk aj nj vj =>
              rw [hx] at g2 g3 g4 f2 f3 f4
              simp only at g2 g3 g4 f2 f3 f4
              clear hx
              have i1 : (0 : Int) ≤ (j : Int) := by omega
              have i2 : (j : Int) < (lk : Int) := by omega
              have i3 : (0 : Int) ≤ (k : Int) := by omega
              have i4 : (k : Int) < (len : Int) := by omega
              go_wp2_with fail
              go_quiet (fail)
              go_wp2
              go_roundw
              case rel => exact ⟨j + 1, by omega, by go_num, below_drewN HBJ.out _⟩
              case measure => simp [intOf]; omega
            · by_cases h3 : lk = 3
              · have ht : ((lk : Int) == 3) = true := by simp; omega
                have HJ3 : Hid (∀ (f : Option Addr) (c : Nat) (W : World), FldsAt W f 3 X → Calls Try.prog 18 #[.slice f 3 c] W fun e w' => e = .returned (.tuple #[.int .u64 (u rb), .int .i64 0]) ∧ Below W.heap.size W w') := by
                  rw [h3] at HJ; exact HJ
                have hbd : ∀ j, j < 3 → (X j).n ≤ 9223372036854775807 ∧ -9223372036854775808 ≤ (X j).n ∧ (X j).a ≤ 9223372036854775807 ∧ -9223372036854775808 ≤ (X j).a := by
                  intro j hj
                  obtain ⟨_, _, _, hf⟩ := HF5.out j (by omega)
                  exact ⟨hf.n1, hf.n0, hf.a1, hf.a0⟩
                have hcl : ∀ j, j < 3 → w5.cell? ⟨g, j * 3, none⟩ = some (.int .i64 (X j).a) ∧ w5.cell? ⟨g, j * 3 + 1, none⟩ = some (.int .i64 (X j).n) ∧ w5.cell? ⟨g, j * 3 + 2, none⟩ = some (.int .u64 (u (X j).v)) := by
                  intro j hj
                  obtain ⟨b', o', hf', hf⟩ := HF5.out j (by omega)
                  simp at hf'
                  obtain ⟨rfl, rfl⟩ := hf'
                  have q0 := hf.c0
                  have q1 := hf.c1
                  have q2 := hf.c2
                  rw [Nat.zero_add] at q0 q1 q2
                  exact ⟨q0, q1, q2⟩
                obtain ⟨r0, r1, r2⟩ := hcl 0 (by omega)
                obtain ⟨r3, r4, r5⟩ := hcl 1 (by omega)
                obtain ⟨r6, r7, r8⟩ := hcl 2 (by omega)
                clear hcl
                cases hx0 : X 0 with
                | mk a0 n0 v0 =>
                cases hx1 : X 1 with
                | mk a1 n1 v1 =>
                cases hx2 : X 2 with
                | mk a2 n2 v2 =>
                rw [hx0] at r0 r1 r2
                rw [hx1] at r3 r4 r5
                rw [hx2] at r6 r7 r8
                simp only [Nat.zero_mul, Nat.zero_add, Nat.one_mul, Nat.reduceMul, Nat.reduceAdd] at r0 r1 r2 r3 r4 r5 r6 r7 r8
                have HNEW := Lib.hid (fun W => flds_new3 W X a0 n0 a1 n1 a2 n2 v0 v1 v2 hx0 hx1 hx2 hbd)
                have i0 : (0 : Int) < (lk : Int) := by omega
                have i1 : (1 : Int) < (lk : Int) := by omega
                have i2 : (2 : Int) < (lk : Int) := by omega
                have i3 : 0 < lk := by omega
                have i4 : 1 < lk := by omega
                have i5 : 2 < lk := by omega
                clear hx0 hx1 hx2 hbd h3
                have hgl : g < w5.heap.size := cell_block r0
                go_wp2_with fail
                go_region_held3 (fun w' => w'.cell? ⟨g, 0, none⟩ = some (.int .i64 a0) ∧ w'.cell? ⟨g, 1, none⟩ = some (.int .i64 n0) ∧ w'.cell? ⟨g, 2, none⟩ = some (.int .u64 (u v0)) ∧ w'.cell? ⟨g, 3, none⟩ = some (.int .i64 a1) ∧ w'.cell? ⟨g, 4, none⟩ = some (.int .i64 n1) ∧ w'.cell? ⟨g, 5, none⟩ = some (.int .u64 (u v1)) ∧ w'.cell? ⟨g, 6, none⟩ = some (.int .i64 a2) ∧ w'.cell? ⟨g, 7, none⟩ = some (.int .i64 n2) ∧ w'.cell? ⟨g, 8, none⟩ = some (.int .u64 (u v2))) (go_keep)
                  (first | (go_at_call 18; refine (HJ3.out _ _ _ ?_).mono ?_; exact (HNEW.out w5).below (Below.drew (Below.refl _ _)); rintro e w6 ⟨rfl, hb6⟩; have hk6 := keep_new hb6 hgl))
                clear hk6
                go_wp2_with (go_at_call 10; refine (num_any _ _).mono ?_; rintro e w7 ⟨rfl, rfl⟩)
                go_roundw
                case rel => exact ⟨k + 1, by omega, by go_num, bel_trans (Below.drew (bel_alloc B5.out _)) hb6⟩
                case measure => simp [intOf]; omega
              · have ht : ((lk : Int) == 3) = false := by simp; omega
                clear h3
                go_wp2
                go_roundw
                case rel => exact ⟨k + 1, by omega, by go_num, B5.out⟩
                case measure => simp [intOf]; omega
        · rw [if_neg hz, show u 0#64 = 0 from by decide] at FR
          have hz' : (re != 0) = true := by simpa using hz
          have HFR := Lib.hid FR
          clear FR hz
          go_wp2_with fail
          refine (HFR.out _ _ _ HF2.out).mono ?_
          rintro e w3 ⟨rfl, hb3⟩
          have HA3 := Lib.hid (HA2.out.below hb3)
          have HX3 := Lib.hid (HX2.out.below hb3)
          have HF3 := Lib.hid (HF2.out.below hb3)
          have B3 := Lib.hid (bel_trans B2.out hb3)
          clear hb3 HA2 HX2 HF2 B2 HFR
          obtain ⟨h1, h2, h3, h4, h5, _, _, _, _⟩ := HA3.out
          go_wp2_with fail
          refine (HRJ.out _ _ _ HX3.out).mono ?_
          rintro e w4 ⟨rfl, hb4⟩
          have HA4 := Lib.hid (HA3.out.below hb4)
          have HX4 := Lib.hid (HX3.out.below hb4)
          have HF4 := Lib.hid (HF3.out.below hb4)
          have B4 := Lib.hid (bel_trans B3.out hb4)
          clear hb4 HA3 HX3 HF3 B3 HRJ h1 h2 h3 h4 h5
          go_wp2_with (go_at_call 10; refine (num_any _ _).mono ?_; rintro e w5 ⟨rfl, rfl⟩)
          go_loopw [13] (fun i wi => ∃ j : Nat, j ≤ lk ∧ i = .int .i64 j ∧ Below w4.heap.size w4 wi) (fun i _ => lk - (intOf i).toNat)
          case atStart => exact ⟨0, Nat.zero_le _, rfl, Below.refl _ _⟩
          case round =>
            obtain ⟨j, hj, rfl, hbj⟩ := hrel
            have HA5 := Lib.hid (HA4.out.below hbj)
            have HX5 := Lib.hid (HX4.out.below hbj)
            have HF5 := Lib.hid (HF4.out.below hbj)
            have B5 := Lib.hid (bel_trans B4.out hbj)
            have HBJ := Lib.hid hbj
            clear hbj
            obtain ⟨w5, rfl⟩ : ∃ w5 : World, w5 = wr := ⟨_, rfl⟩
            by_cases hjl : j < lk
            · obtain ⟨h1, h2, h3, h4, h5, _, _, _, _⟩ := HA5.out
              obtain ⟨bf, of, hfk, hf⟩ := HX5.out j hjl
              obtain ⟨bg, og, hgk, hgf⟩ := HF5.out j hjl
              simp at hgk
              obtain ⟨rfl, rfl⟩ := hgk
              subst hfk
              obtain ⟨g1, g2, g3, g4, _, _, _, _⟩ := hf
              obtain ⟨f1, f2, f3, f4, _, _, _, _⟩ := hgf
              rw [Nat.zero_add] at f2 f3 f4
              cases hx : X j with
              | mk aj nj vj =>
              rw [hx] at g2 g3 g4 f2 f3 f4
              simp only at g2 g3 g4 f2 f3 f4
              clear hx
              have i1 : (0 : Int) ≤ (j : Int) := by omega
              have i2 : (j : Int) < (lk : Int) := by omega
              have i3 : (0 : Int) ≤ (k : Int) := by omega
              have i4 : (k : Int) < (len : Int) := by omega
              go_wp2_with fail
              go_quiet (fail)
              go_wp2
              go_roundw
              case rel => exact ⟨j + 1, by omega, by go_num, below_drewN HBJ.out _⟩
              case measure => simp [intOf]; omega
            · by_cases h3 : lk = 3
              · have ht : ((lk : Int) == 3) = true := by simp; omega
                have HJ3 : Hid (∀ (f : Option Addr) (c : Nat) (W : World), FldsAt W f 3 X → Calls Try.prog 18 #[.slice f 3 c] W fun e w' => e = .returned (.tuple #[.int .u64 (u rb), .int .i64 re]) ∧ Below W.heap.size W w') := by
                  rw [h3] at HJ; exact HJ
                have hbd : ∀ j, j < 3 → (X j).n ≤ 9223372036854775807 ∧ -9223372036854775808 ≤ (X j).n ∧ (X j).a ≤ 9223372036854775807 ∧ -9223372036854775808 ≤ (X j).a := by
                  intro j hj
                  obtain ⟨_, _, _, hf⟩ := HF5.out j (by omega)
                  exact ⟨hf.n1, hf.n0, hf.a1, hf.a0⟩
                have hcl : ∀ j, j < 3 → w5.cell? ⟨g, j * 3, none⟩ = some (.int .i64 (X j).a) ∧ w5.cell? ⟨g, j * 3 + 1, none⟩ = some (.int .i64 (X j).n) ∧ w5.cell? ⟨g, j * 3 + 2, none⟩ = some (.int .u64 (u (X j).v)) := by
                  intro j hj
                  obtain ⟨b', o', hf', hf⟩ := HF5.out j (by omega)
                  simp at hf'
                  obtain ⟨rfl, rfl⟩ := hf'
                  have q0 := hf.c0
                  have q1 := hf.c1
                  have q2 := hf.c2
                  rw [Nat.zero_add] at q0 q1 q2
                  exact ⟨q0, q1, q2⟩
                obtain ⟨r0, r1, r2⟩ := hcl 0 (by omega)
                obtain ⟨r3, r4, r5⟩ := hcl 1 (by omega)
                obtain ⟨r6, r7, r8⟩ := hcl 2 (by omega)
                clear hcl
                cases hx0 : X 0 with
                | mk a0 n0 v0 =>
                cases hx1 : X 1 with
                | mk a1 n1 v1 =>
                cases hx2 : X 2 with
                | mk a2 n2 v2 =>
                rw [hx0] at r0 r1 r2
                rw [hx1] at r3 r4 r5
                rw [hx2] at r6 r7 r8
                simp only [Nat.zero_mul, Nat.zero_add, Nat.one_mul, Nat.reduceMul, Nat.reduceAdd] at r0 r1 r2 r3 r4 r5 r6 r7 r8
                have HNEW := Lib.hid (fun W => flds_new3 W X a0 n0 a1 n1 a2 n2 v0 v1 v2 hx0 hx1 hx2 hbd)
                have i0 : (0 : Int) < (lk : Int) := by omega
                have i1 : (1 : Int) < (lk : Int) := by omega
                have i2 : (2 : Int) < (lk : Int) := by omega
                have i3 : 0 < lk := by omega
                have i4 : 1 < lk := by omega
                have i5 : 2 < lk := by omega
                clear hx0 hx1 hx2 hbd h3
                have hgl : g < w5.heap.size := cell_block r0
                go_wp2_with fail
                go_region_held3 (fun w' => w'.cell? ⟨g, 0, none⟩ = some (.int .i64 a0) ∧ w'.cell? ⟨g, 1, none⟩ = some (.int .i64 n0) ∧ w'.cell? ⟨g, 2, none⟩ = some (.int .u64 (u v0)) ∧ w'.cell? ⟨g, 3, none⟩ = some (.int .i64 a1) ∧ w'.cell? ⟨g, 4, none⟩ = some (.int .i64 n1) ∧ w'.cell? ⟨g, 5, none⟩ = some (.int .u64 (u v1)) ∧ w'.cell? ⟨g, 6, none⟩ = some (.int .i64 a2) ∧ w'.cell? ⟨g, 7, none⟩ = some (.int .i64 n2) ∧ w'.cell? ⟨g, 8, none⟩ = some (.int .u64 (u v2))) (go_keep)
                  (first | (go_at_call 18; refine (HJ3.out _ _ _ ?_).mono ?_; exact (HNEW.out w5).below (Below.drew (Below.refl _ _)); rintro e w6 ⟨rfl, hb6⟩; have hk6 := keep_new hb6 hgl))
                clear hk6
                go_wp2_with (go_at_call 10; refine (num_any _ _).mono ?_; rintro e w7 ⟨rfl, rfl⟩)
                go_roundw
                case rel => exact ⟨k + 1, by omega, by go_num, bel_trans (Below.drew (bel_alloc B5.out _)) hb6⟩
                case measure => simp [intOf]; omega
              · have ht : ((lk : Int) == 3) = false := by simp; omega
                clear h3
                go_wp2
                go_roundw
                case rel => exact ⟨k + 1, by omega, by go_num, B5.out⟩
                case measure => simp [intOf]; omega
    · by_cases hq : k < len
      · have hq' : ¬ (k < 15) := by omega
        go_wp2_with (first
          | (go_at_call 18; refine (join_nil _).mono ?_; rintro e w1 ⟨rfl, hb1⟩)
          | (go_at_call 19; refine (free_nil _).mono ?_; rintro e w2 ⟨rfl, hb2⟩)
          | (go_at_call 10; refine (num_any _ _).mono ?_; rintro e w7 ⟨rfl, rfl⟩)
          | (go_at_call 13; refine (wakes_any _).mono ?_; rintro e w3 ⟨rfl, hb3⟩))
        go_ret
        exact ⟨rfl, bel_trans (bel_trans (bel_trans hb hb1) hb2) hb3⟩
      · have hq'' := hq
        go_wp2_with (first
          | (go_at_call 18; refine (join_nil _).mono ?_; rintro e w1 ⟨rfl, hb1⟩)
          | (go_at_call 19; refine (free_nil _).mono ?_; rintro e w2 ⟨rfl, hb2⟩)
          | (go_at_call 10; refine (num_any _ _).mono ?_; rintro e w7 ⟨rfl, rfl⟩)
          | (go_at_call 13; refine (wakes_any _).mono ?_; rintro e w3 ⟨rfl, hb3⟩))
        go_ret
        exact ⟨rfl, bel_trans (bel_trans (bel_trans hb hb1) hb2) hb3⟩
end Go.Proofs.Ytgbkgapjmmadoaa
