/- Contracts of the law's heavy and wakes. -/
import Derived.Test.YtpnkhijbfnnggaaScripts
import Derived.Test.YtpnkhijbfnnggaaMemH
namespace Go.Proofs.Ytpnkhijbfnnggaa
open Go.ChangeShapes Go.WideShapes Go.ChangeAt Go.RowKit Go.Deep

/-- How heavy ends: where it is false, nothing is long. -/
def HeavyEnd (l n : Nat) (A : Nat → ActV) (e : Ending) : Prop := ∃ r, e = .returned (.bool r) ∧ (r = false → l ≤ 3000 ∧ n ≤ 3000 ∧ ∀ i, i < n → (A i).l ≤ 3000)

set_option maxRecDepth 100000 in
theorem heavy_any (f g : Option Addr) (l cap n d : Nat) (A : Nat → ActV) (w : World) (hl : l ≤ 1000000000000000) (hn : n ≤ 1000000000000000) (hA : ActsAt w g n A) :
    Calls Try.prog 10 #[.agg #[.slice f l cap, .slice g n d]] w fun e w' => HeavyEnd l n A e ∧ Below w.heap.size w w' := by
  obtain ⟨W, hW⟩ : ∃ W, W = w.alloc (.cells #[.slice f l cap, .slice g n d] 27) := ⟨_, rfl⟩
  have hb1 : Below w.heap.size w W := by rw [hW]; exact bel_alloc (Below.refl w.heap.size w) _
  have L0 : Loc W w.heap.size 0 (.slice f l cap) := by rw [hW]; exact Loc.new _ _ _ _ 0 _ rfl rfl
  have L1 : Loc W w.heap.size 1 (.slice g n d) := by rw [hW]; exact Loc.new _ _ _ _ 1 _ rfl rfl
  have HA := Lib.hid (hA.below hb1)
  have HB := Lib.hid hb1
  have c0 := L0.cell
  have c1 := L1.cell
  clear hA hb1 L0 L1
  go_enter Try.func10, Try.ntmps10
  go_wp2
  rw [← hW]
  clear hW
  go_loopw [3, 4] (fun x i wr => ∃ (m k : Nat), k ≤ n ∧ i = .int .i64 k ∧ x = .int .i64 m ∧ wr = W ∧ m ≤ 2000000000000000 ∧ l + k ≤ m ∧ Hid (∀ i, i < k → (A i).l ≤ m)) (fun _ i _ => n - (intOf i).toNat)
  case atStart => exact ⟨l, 0, by omega, rfl, rfl, rfl, by omega, by omega, fun i hi => absurd hi (by omega)⟩
  case round =>
    obtain ⟨m, k, hk, rfl, rfl, rfl, hm, hlm, HI⟩ := hrel
    by_cases hlt : k < n
    · by_cases hs : (m : Int) < 1048576
      · obtain ⟨b, o, rfl, ha⟩ := HA.out k hlt
        have h5 := ha.c4
        have h6 := ha.len
        have HK : Hid ((A k).l = (A k).l) := rfl
        generalize hlk : (A k).l = lk at h5 h6
        generalize (A k).f = fk at h5
        generalize (A k).c = ck at h5
        have HL := Lib.hid hlk
        have i1 : (0 : Int) ≤ (k : Int) := by omega
        have i2 : (k : Int) < (n : Int) := by omega
        clear ha hlk HK
        go_wp2
        go_roundw
        case rel =>
          refine ⟨m + 1 + lk, k + 1, by omega, by go_num, by go_num, by first | rfl | trivial, by omega, by omega, fun i hi => ?_⟩
          by_cases hik : i = k
          · rw [hik, HL.out]; omega
          · have := HI.out i (by omega); omega
        case measure => simp [intOf]; omega
      · go_wp2
        go_ret
        refine ⟨⟨_, rfl, fun hr => ?_⟩, HB.out⟩
        have := of_decide_eq_false hr
        omega
    · go_wp2
      all_goals
        go_ret
        refine ⟨⟨_, rfl, fun hr => ?_⟩, HB.out⟩
        have h3 := of_decide_eq_false hr
        refine ⟨by omega, by omega, fun i hi => ?_⟩
        have := HI.out i (by omega)
        omega

theorem wakes_any (w : World) :
    Calls Try.prog 31 #[] w fun e w' => e = .returned (.bool true) ∧ Below w.heap.size w w' := by
  have hu : u 258#64 = 258 := by decide
  go_enter Try.func31, Try.ntmps31
  go_wp2_with fail
  refine (new_ok 1 w (by omega) (by omega)).mono ?_
  rintro e w1 ⟨f1, c1, rfl, hO1, hb1⟩
  rw [Nat.one_mul] at hO1
  obtain ⟨W, hW⟩ : ∃ W, W = w1.alloc (.cells #[.slice f1 8 c1] 24) := ⟨_, rfl⟩
  have hB1 : Below w.heap.size w W := by rw [hW]; exact bel_alloc hb1 _
  have L1 : Loc W w1.heap.size 0 (.slice f1 8 c1) := by rw [hW]; exact Loc.new _ _ _ _ 0 _ rfl rfl
  have hX1 : WordsAt W f1 8 (fun _ => 0#64) := by rw [hW]; exact (hO1.below (bel_alloc (Below.refl _ _) _)).words
  have H2 := write_ok f1 8 c1 _ 2 2 258#64 W hX1 (by decide) (by decide)
  rw [hu] at H2
  have HH2 := Lib.hid H2
  have HB1 := Lib.hid hB1
  have HL1 := Lib.hid L1
  have hs1 := hb1.size
  clear hO1 hb1 hB1 L1 hX1 H2
  go_wp2_with fail
  rw [← hW]
  refine HH2.out.mono ?_
  rintro e w2 ⟨f2, c2, rfl, hO2, hb2⟩
  have L2 := HL1.out.below hb2
  have hs := HL1.out.lt
  have hB3 := (HB1.out.trans (hb2.mono HB1.out.size)).setCell (p := ⟨w1.heap.size, 0, none⟩) hs1 (.slice f2 8 c2)
  have hX3 := (hO2.other w1.heap.size 0 (.slice f2 8 c2) hs).words
  have H3 := read_ok f2 8 c2 _ 2 1 _ hX3 (by decide) (by decide)
  have hv : u (rdV (wrV (fun _ => 0#64) 2 2 258#64) 2 1) = 2 := by decide
  rw [hv] at H3
  have c3 := (L2.put (.slice f2 8 c2)).cell
  obtain ⟨p2, q2⟩ := L2
  have HH3 := Lib.hid H3
  have HB3 := Lib.hid hB3
  clear hW HH2 HB1 HL1 hO2 hb2 hB3 hX3 H3
  go_wp2_with (first
    | (go_at_call 14; refine (num_any _ _).mono ?_; rintro e w4 ⟨rfl, rfl⟩)
    | (go_at_call 18; refine HH3.out.mono ?_; rintro e w3 ⟨rfl, hb3⟩))
  go_ret
  exact ⟨rfl, bel_trans HB3.out hb3⟩
end Go.Proofs.Ytpnkhijbfnnggaa
