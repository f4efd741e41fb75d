/- The walk of MemZeros. -/
import Derived.Test.YtpnkhijbfnnggaaHeavy
import Derived.Test.YtpnkhijbfnnggaaMemG
namespace Go.Proofs.Ytpnkhijbfnnggaa
open Go.ChangeShapes Go.WideShapes Go.ChangeAt Go.RowKit Go.Deep

def InEnd (N : Nat → Int) (n : Nat) (x : Int) (e : Ending) : Prop := ∃ k, e = .returned (.int .i64 k) ∧ (0 ≤ k ↔ ∃ j, j < n ∧ N j = x)

set_option maxRecDepth 100000 in
theorem in_any (g : Option Addr) (n d : Nat) (N : Nat → Int) (x : Int) (w : World) (h : NumsAt w g n N) (hn : n ≤ 1000000000) :
    Calls Try.prog 34 #[.slice g n d, .int .i64 x] w fun e w' => InEnd N n x e ∧ w' = w := by
  have HN := Lib.hid h
  clear h
  go_enter Try.func34, Try.ntmps34
  go_wp2
  go_loopw [5] (fun i wr => ∃ (k : Nat), k ≤ n ∧ i = .int .i64 k ∧ wr = w ∧ Hid (∀ j, j < k → N j ≠ x)) (fun i _ => n - (intOf i).toNat)
  case atStart => exact ⟨0, Nat.zero_le _, rfl, by first | rfl | trivial, fun j hj => absurd hj (by omega)⟩
  case round =>
    obtain ⟨k, hk, rfl, rfl, HA⟩ := hrel
    by_cases hlt : k < n
    · obtain ⟨b, o, rfl, hc⟩ := HN.out k hlt
      simp only at hc
      have i1 : (0 : Int) ≤ (k : Int) := by omega
      have i2 : (k : Int) < (n : Int) := by omega
      by_cases he : N k = x
      · have HE := Lib.hid he
        rw [he] at hc
        clear he
        go_wp2
        go_ret
        exact ⟨⟨k, rfl, ⟨fun _ => ⟨k, hlt, HE.out⟩, fun _ => by omega⟩⟩, by first | rfl | trivial⟩
      · have hd : (N k == x) = false := by simpa using he
        have HE := Lib.hid he
        clear he
        go_wp2
        go_roundw
        case rel =>
          refine ⟨k + 1, by omega, by go_num, by first | rfl | trivial, fun j hj => ?_⟩
          by_cases hjk : j = k
          · rw [hjk]; exact HE.out
          · exact HA.out j (by omega)
        case measure => simp [intOf]; omega
    · go_wp2
      go_ret
      refine ⟨⟨-1, rfl, ⟨fun h => absurd h (by omega), fun ⟨j, hj, hx⟩ => absurd hx (HA.out j (by omega))⟩⟩, by first | rfl | trivial⟩

set_option maxRecDepth 100000 in
set_option maxHeartbeats 3200000 in
theorem zeros_walk (f g : Option Addr) (l cap n d : Nat) (X : Nat → BitVec 64) (A : Nat → ActV) (w : World) (hl : l ≤ 1000000000000000) (hn : n ≤ 1000000000000000) (hX : WordsAt w f l X) (hA : ActsAt w g n A) :
    Calls Try.prog 9 #[.agg #[.slice f l cap, .slice g n d]] w fun e w' => e = .returned (.bool true) ∧ Below w.heap.size w w' := by
  obtain ⟨W, hW⟩ : ∃ W, W = w.alloc (.cells #[.slice f l cap, .slice g n d] 27) := ⟨_, rfl⟩
  have hb1 : Below w.heap.size w W := by rw [hW]; exact bel_alloc (Below.refl w.heap.size w) _
  have L0 : Loc W w.heap.size 0 (.slice f l cap) := by rw [hW]; exact Loc.new _ _ _ _ 0 _ rfl rfl
  have L1 : Loc W w.heap.size 1 (.slice g n d) := by rw [hW]; exact Loc.new _ _ _ _ 1 _ rfl rfl
  have HH := Lib.hid (heavy_any f g l cap n d A W hl hn (hA.below hb1))
  have HX := Lib.hid hX
  have HA := Lib.hid hA
  clear hX hA
  go_enter Try.func9, Try.ntmps9
  go_wp2_with fail
  rw [← hW]
  refine HH.out.mono ?_
  rintro e w1 ⟨⟨r, rfl, hr⟩, hb2⟩
  have HB1 := Lib.hid (bel_trans hb1 hb2)
  have HL0 := Lib.hid (L0.below hb2)
  have HL1 := Lib.hid (L1.below hb2)
  have HR := Lib.hid hr
  clear hr hb1 hb2 L0 L1 hW HH
  have c0 := HL0.out.cell
  cases r with
  | true =>
    go_wp2_with fail
    go_ret
    exact ⟨rfl, HB1.out⟩
  | false =>
    obtain ⟨hl3, hn3, hA3⟩ := HR.out rfl
    have HA3 := Lib.hid hA3
    clear HR hA3
    cases hM : okM l
    · go_wp2_with (go_at_call 12; refine (rmem_any _ _ _ _).mono ?_; rintro e w2 ⟨rfl, rfl⟩)
      go_ret
      exact ⟨rfl, bel_alloc HB1.out _⟩
    · go_wp2_with fail
      refine (rmem_any _ _ _ _).mono ?_
      rintro e w2 ⟨rfl, hw2⟩
      have HB2 : Hid (Below w.heap.size w w2) := by rw [hw2]; exact bel_alloc HB1.out _
      have HL2 : Hid (Loc w2 w.heap.size 0 (.slice f l cap)) := by rw [hw2]; exact HL0.out.alloc _
      have HL3 : Hid (Loc w2 w.heap.size 1 (.slice g n d)) := by rw [hw2]; exact HL1.out.alloc _
      clear hw2 c0 HB1 HL0 HL1
      go_wp2
      go_loopw [3] (fun i wr => ∃ (k : Nat), k ≤ n ∧ i = .int .i64 k ∧ Below w.heap.size w wr ∧ Hid (Loc wr w.heap.size 0 (.slice f l cap)) ∧ Hid (Loc wr w.heap.size 1 (.slice g n d))) (fun i _ => n - (intOf i).toNat)
      case atStart => exact ⟨0, Nat.zero_le _, rfl, HB2.out, HL2, HL3⟩
      case round =>
        obtain ⟨k, hk, rfl, hb, HL4, HL5⟩ := hrel
        have c0 := HL4.out.cell
        have c1 := HL5.out.cell
        have HB := Lib.hid hb
        clear hb
        by_cases hlt : k < n ∧ k < 15
        · obtain ⟨hlt, hlt'⟩ := hlt
          obtain ⟨b, o, rfl, ha⟩ := HA.out k hlt
          have ha2 := ha.below HB.out
          have h5 := ha2.c4
          have HN := Lib.hid ha2.nums
          have h7 := HA3.out k hlt
          generalize (A k).l = lk at h5 HN h7
          generalize (A k).f = fk at h5 HN
          generalize (A k).c = ck at h5
          generalize (A k).N = N at HN
          have i1 : (0 : Int) ≤ (k : Int) := by omega
          have i2 : (k : Int) < (n : Int) := by omega
          clear ha ha2
          by_cases h50 : 50 < lk
          · have hd : decide ((lk : Int) > 50) = true := decide_eq_true (by omega)
            go_wp2
            go_ret
            exact ⟨rfl, HB.out⟩
          · have HXr := Lib.hid (HX.out.below HB.out)
            by_cases hall : allF l N lk
            · have HALL := Lib.hid hall
              have HZ := Lib.hid (fun cc dd => zero_ok f fk l cc lk dd X N wr HXr.out HN.out (by omega) hM hall)
              clear hall
              go_wp2_with fail
              refine (HZ.out _ _).mono ?_
              rintro e w3 ⟨f3, c3, rfl, hO3, hb3⟩
              obtain ⟨W4, hW4⟩ : ∃ W4, W4 = w3.alloc (.cells #[.slice f3 l c3] 24) := ⟨_, rfl⟩
              have hbr : Below wr.heap.size wr W4 := by rw [hW4]; exact bel_alloc hb3 _
              have M0 := HL4.out.below hbr
              have M1 := HL5.out.below hbr
              have M2 : Loc W4 w3.heap.size 0 (.slice f3 l c3) := by rw [hW4]; exact Loc.new _ _ _ _ 0 _ rfl rfl
              have HO4 : Hid (OwnW W4 wr.heap.size (.slice f3 l c3) l (zerV X N lk)) := by rw [hW4]; exact hO3.below (bel_alloc (Below.refl _ _) _)
              have HN4 := Lib.hid (HN.out.below hbr)
              have HX4 := Lib.hid (HXr.out.below hbr)
              have HT := Lib.hid (fun cc dd => there_any f fk l cc lk dd N W4 HN4.out (by omega) (by omega))
              have HB4 := Lib.hid (bel_trans HB.out hbr)
              have n0 := cell_keep (HL4.out.below hb3).cell (.cells #[.slice f3 l c3] 24)
              clear hO3 hb3 hbr HZ
              go_wp2_with fail
              rw [← hW4]
              refine (HT.out _ _).mono ?_
              rintro e w5 ⟨⟨r, rfl, hr⟩, hb5⟩
              obtain rfl := hr.2 HALL.out
              have c0 := (M0.below hb5).cell
              have c2 := (M2.below hb5).cell
              have HL8 := Lib.hid (M0.below hb5)
              have HL9 := Lib.hid (M1.below hb5)
              have HB5 := Lib.hid (bel_trans HB4.out hb5)
              have HO5 := Lib.hid (HO4.out.below hb5)
              have HN5 := Lib.hid (HN4.out.below hb5)
              have HX5 := Lib.hid (HX4.out.below hb5)
              clear hr hb5 hW4 M0 M1 M2 HT HO4 HN4 HX4 HB4 n0
              go_wp2_with (go_at_call 14; refine (num_any _ _).mono ?_; rintro e w6 ⟨rfl, rfl⟩)
              go_loopw [7] (fun i wi => ∃ (j : Nat), j ≤ l ∧ i = .int .i64 j ∧ wi = w5) (fun i _ => l - (intOf i).toNat)
              case atStart => exact ⟨0, Nat.zero_le _, rfl, by first | rfl | trivial⟩
              case round =>
                obtain ⟨j, hj, rfl, rfl⟩ := hrel
                by_cases hjl : j < l
                · obtain ⟨bx, ox, rfl, hx⟩ := HX5.out j hjl
                  obtain ⟨g5, c5, hv5, _, _, _, hcc⟩ := HO5.out.pos (by omega)
                  simp at hv5
                  obtain ⟨rfl, rfl⟩ := hv5
                  have hy := hcc j hjl
                  have hzat := zerV_at X N j lk (fun q hq => (HALL.out q hq).1)
                  have j1 : (0 : Int) ≤ (j : Int) := by omega
                  have j2 : (j : Int) < (l : Int) := by omega
                  simp only at hx
                  clear hcc
                  have HIN := Lib.hid (fun dd => in_any fk lk dd N ((j / 8 : Nat) : Int) wr HN5.out (by omega))
                  have hj8 : ((j / 8 : Nat) : Int) = (j : Int) / 8 := by omega
                  rw [hj8] at HIN hzat
                  by_cases hex : ∃ q, q < lk ∧ N q = (j : Int) / 8
                  · rw [if_pos hex] at hzat
                    rw [hzat, show u 0#64 = 0 from by decide] at hy
                    have HEX := Lib.hid hex
                    clear hex hzat hj8
                    go_wp2_with fail
                    refine (HIN.out _).mono ?_
                    rintro e w7 ⟨⟨q, rfl, hq⟩, rfl⟩
                    have hq0 : 0 ≤ q := hq.2 HEX.out
                    clear hq
                    go_wp2
                    go_roundw
                    case rel => exact ⟨j + 1, by omega, by go_num, by first | rfl | trivial⟩
                    case measure => simp [intOf]; omega
                  · rw [if_neg hex] at hzat
                    rw [hzat] at hy
                    have HEX := Lib.hid hex
                    clear hex hzat hj8
                    go_wp2_with fail
                    refine (HIN.out _).mono ?_
                    rintro e w7 ⟨⟨q, rfl, hq⟩, rfl⟩
                    have hq0 : ¬ 0 ≤ q := fun h => HEX.out (hq.1 h)
                    have hq1 : decide (0 ≤ q) = false := decide_eq_false hq0
                    clear hq
                    go_wp2
                    go_roundw
                    case rel => exact ⟨j + 1, by omega, by go_num, by first | rfl | trivial⟩
                    case measure => simp [intOf]; omega
                · go_wp2
                  go_roundw
                  case rel => exact ⟨k + 1, by omega, by go_num, HB5.out, HL8, HL9⟩
                  case measure => simp [intOf]; omega
            · have HALL := Lib.hid hall
              have HZ := Lib.hid (fun cc dd => zero_err f fk l cc lk dd N 2 wr HN.out (by omega) (by rw [hM]; rfl) (fun _ => hall))
              clear hall
              go_wp2_with fail
              refine (HZ.out _ _).mono ?_
              rintro e w3 ⟨rfl, hb3⟩
              obtain ⟨W4, hW4⟩ : ∃ W4, W4 = w3.alloc (.cells #[.slice none 0 0] 24) := ⟨_, rfl⟩
              have hbr : Below wr.heap.size wr W4 := by rw [hW4]; exact bel_alloc hb3 _
              have M0 := HL4.out.below hbr
              have M1 := HL5.out.below hbr
              have M2 : Loc W4 w3.heap.size 0 (.slice none 0 0) := by rw [hW4]; exact Loc.new _ _ _ _ 0 _ rfl rfl
              have HT := Lib.hid (fun cc dd => there_any f fk l cc lk dd N W4 (HN.out.below hbr) (by omega) (by omega))
              have HB4 := Lib.hid (bel_trans HB.out hbr)
              have n0 := cell_keep (HL4.out.below hb3).cell (.cells #[.slice none 0 0] 24)
              clear hb3 hbr HZ
              go_wp2_with fail
              rw [← hW4]
              refine (HT.out _ _).mono ?_
              rintro e w5 ⟨⟨r, rfl, hr⟩, hb5⟩
              obtain rfl : r = false := by
                cases r
                · rfl
                · exact absurd (hr.1 rfl) HALL.out
              have c2 := (M2.below hb5).cell
              have HL8 := Lib.hid (M0.below hb5)
              have HL9 := Lib.hid (M1.below hb5)
              have HB5 := Lib.hid (bel_trans HB4.out hb5)
              clear hr hb5 hW4 M0 M1 M2 HT HB4 n0
              go_wp2_with (go_at_call 14; refine (num_any _ _).mono ?_; rintro e w6 ⟨rfl, rfl⟩)
              go_roundw
              case rel => exact ⟨k + 1, by omega, by go_num, HB5.out, HL8, HL9⟩
              case measure => simp [intOf]; omega
        · have h32 : (withinV 3 2 == 1) = true := by decide
          by_cases hq : k < n
          · have hq' : ¬ (k < 15) := by omega
            go_wp2_with (first
              | (go_at_call 17; refine (within_any _ _ _ (by omega) (by omega)).mono ?_; rintro e w6 ⟨rfl, rfl⟩)
              | (go_at_call 31; refine (wakes_any _).mono ?_; rintro e w7 ⟨rfl, hb7⟩))
            go_ret
            exact ⟨rfl, bel_trans HB.out hb7⟩
          · go_wp2_with (first
              | (go_at_call 17; refine (within_any _ _ _ (by omega) (by omega)).mono ?_; rintro e w6 ⟨rfl, rfl⟩)
              | (go_at_call 31; refine (wakes_any _).mono ?_; rintro e w7 ⟨rfl, hb7⟩))
            go_ret
            exact ⟨rfl, bel_trans HB.out hb7⟩
end Go.Proofs.Ytpnkhijbfnnggaa
