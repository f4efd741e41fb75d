/- The walk of WordPuts. -/
import Derived.Test.YtgbkgapjmmadoaaPut
namespace Go.Proofs.Ytgbkgapjmmadoaa
open Go.ChangeShapes Go.WideShapes Go.ChangeAt Go.RowKit

theorem heavy_any (v : BitVec 64) (f : Option Addr) (l c : Nat) (a n : Int) (w : World) :
    Calls Try.prog 14 #[.agg #[.int .u64 (u v), .slice f l c, .int .i64 a, .int .i64 n]] w fun e w' => e = .returned (.bool (decide (200 < l))) ∧
      w' = w.alloc (.cells #[.int .u64 (u v), .slice f l c, .int .i64 a, .int .i64 n] 26) := by
  by_cases h : 200 < l
  · go_enter Try.func14, Try.ntmps14
    go_wp2
    go_ret
    refine ⟨ret_bool ?_, rfl⟩
    rw [Bool.eq_iff_iff]
    simp
    omega
  · go_enter Try.func14, Try.ntmps14
    go_wp2
    go_ret
    refine ⟨ret_bool ?_, rfl⟩
    rw [Bool.eq_iff_iff]
    simp
    omega

theorem bcell {W w1 : World} (hb : Below W.heap.size W w1) : (∀ b o, b < W.heap.size → w1.cell? ⟨b, o, none⟩ = W.cell? ⟨b, o, none⟩) :=
  fun b o h => hb.cell (p := ⟨b, o, none⟩) h

theorem puts_empty (a : Option Addr) (cap : Nat) (w : World) :
    Calls Try.prog 4 #[.slice a 0 cap] w fun e w' => e = .returned (.bool true) ∧ Below w.heap.size w w' := by
  go_enter Try.func4, Try.ntmps4
  go_wp2
  refine wp_loop_rounds 1 ?_
  rw [rounds_succ]
  go_wp2_with (go_at_call 13; refine (wakes_any _).mono ?_; rintro e w' ⟨rfl, hb⟩)
  go_ret
  exact ⟨rfl, hb⟩

set_option maxRecDepth 100000 in
set_option maxHeartbeats 1600000 in
theorem puts_walk (b off len cap : Nat) (w : World) (V : Nat → BitVec 64) (F : Nat → Option Addr) (L C : Nat → Nat) (A N : Nat → Int)
    (hc : ∀ i, i < len → AskAt w b (off + i * 4) (V i) (F i) (L i) (C i) (A i) (N i) ∧ FieldsAt w (F i) (L i)) :
    Calls Try.prog 4 #[.slice (some ⟨b, off, none⟩) len cap] w fun e w' => e = .returned (.bool true) ∧ Below w.heap.size w w' := by
  have HC := Lib.hid hc
  clear hc
  go_enter Try.func4, Try.ntmps4
  go_wp2
  go_loopw [3] (fun i wr => ∃ k : Nat, k ≤ len ∧ i = .int .i64 k ∧ Below w.heap.size w wr) (fun i _ => len - (intOf i).toNat)
  case atStart => exact ⟨0, Nat.zero_le _, rfl, Below.refl _ _⟩
  case round =>
    obtain ⟨k, hk, rfl, hb⟩ := hrel
    by_cases hlt : k < len ∧ k < 15
    · obtain ⟨hlt, hlt'⟩ := hlt
      have ha := (HC.out k hlt).1.below hb
      have hF := (HC.out k hlt).2.below hb
      obtain ⟨X, hX⟩ := flds_of hF
      have HX := Lib.hid hX
      have HA := Lib.hid ha
      clear hF hX
      obtain ⟨h1, h2, h3, h4, h5, h6, h7, h8, h9⟩ := ha
      generalize V k = vk at *
      generalize A k = ak at *
      generalize N k = nk at *
      generalize F k = fk at *
      generalize L k = lk at *
      generalize C k = ck at *
      have hB := Lib.hid hb
      clear hb
      by_cases hheavy : 200 < lk
      · go_wp2_with (go_at_call 14; refine (heavy_any _ _ _ _ _ _ _).mono ?_; rintro e w1 ⟨rfl, rfl⟩)
        go_ret
        exact ⟨rfl, bel_alloc hB.out _⟩
      · go_wp2_with (go_at_call 14; refine (heavy_any _ _ _ _ _ _ _).mono ?_; rintro e w1 ⟨rfl, rfl⟩)
        have hB2 := Lib.hid (bel_alloc hB.out (.cells #[.int .u64 (u vk), .slice fk lk ck, .int .i64 ak, .int .i64 nk] 26))
        have hB3 := Lib.hid (bel_alloc (Below.refl wr.heap.size wr) (.cells #[.int .u64 (u vk), .slice fk lk ck, .int .i64 ak, .int .i64 nk] 26))
        generalize wr.alloc (.cells #[.int .u64 (u vk), .slice fk lk ck, .int .i64 ak, .int .i64 nk] 26) = wo at hB2 hB3 ⊢
        obtain ⟨wz, rfl⟩ : ∃ wz : World, wz = wr := ⟨_, rfl⟩
        go_loopw [4] (fun i wi => ∃ j : Nat, j ≤ lk ∧ i = .int .i64 j ∧ Below w.heap.size w wi ∧ Below wz.heap.size wz wi) (fun i _ => lk - (intOf i).toNat)
        case atStart => exact ⟨0, Nat.zero_le _, rfl, hB2.out, hB3.out⟩
        case round =>
          obtain ⟨j, hj, rfl, hbi, hbr⟩ := hrel
          have ha := HA.out.below hbr
          have hx := HX.out.below hbr
          clear h1 h2 h3 h4 h5
          obtain ⟨h1, h2, h3, h4, h5, h6, h7, h8, h9⟩ := ha
          by_cases hjl : j < lk ∧ j < 10
          · obtain ⟨hjl, hj'⟩ := hjl
            obtain ⟨bf, of, rfl, hf⟩ := hx j hjl
            obtain ⟨g1, g2, g3, g4, g5, g6, g7, g8⟩ := hf
            clear hx
            cases hx : X j with
            | mk aj nj vj =>
            rw [hx] at g2 g3 g4 g5 g6 g7 g8
            simp only at g2 g3 g4 g5 g6 g7 g8
            clear hx
            have hBi := Lib.hid hbi
            have hBr := Lib.hid hbr
            clear hbi hbr
            have h1' : b < wr.heap.size + 1 := by omega
            cases hg : okF ⟨aj, nj, vj⟩
            · go_wp2_with fail
              go_region_held3 (fun w' => w'.cell? ⟨b, off + k * 4, none⟩ = some (.int .u64 (u vk)) ∧ w'.cell? ⟨wr.heap.size, 0, none⟩ = some (.int .i64 aj) ∧ w'.cell? ⟨wr.heap.size, 1, none⟩ = some (.int .i64 nj) ∧ w'.cell? ⟨wr.heap.size, 2, none⟩ = some (.int .u64 (u vj))) (go_keep)
                (first | (go_at_call 15; refine (put_no _ _ _ _ _ g5 g6 g7 g8 hg).mono ?_; rintro e w1 ⟨rfl, hb1⟩; have hc1 := bcell hb1))
              go_wp2_with (first
                | (go_at_call 16; refine (rfield_any _ _ _ _).mono ?_; rintro e w2 ⟨rfl, hb2⟩)
                | (go_at_call 10; refine (num_any _ _).mono ?_; rintro e w2 ⟨rfl, rfl⟩))
              go_roundw
              case rel => exact ⟨j + 1, by omega, by go_num, bel_trans (bel_trans (Below.drew (bel_alloc hBi.out _)) hb1) hb2, bel_trans (bel_trans (Below.drew (bel_alloc hBr.out _)) hb1) hb2⟩
              case measure => simp [intOf]; omega
            · obtain ⟨q1, q2, q3⟩ := okF_ok hg
              simp only at q1 q2 q3
              go_wp2_with fail
              go_region_held3 (fun w' => w'.cell? ⟨b, off + k * 4, none⟩ = some (.int .u64 (u vk)) ∧ w'.cell? ⟨wr.heap.size, 0, none⟩ = some (.int .i64 aj) ∧ w'.cell? ⟨wr.heap.size, 1, none⟩ = some (.int .i64 nj) ∧ w'.cell? ⟨wr.heap.size, 2, none⟩ = some (.int .u64 (u vj))) (go_keep)
                (first | (go_at_call 15; refine (put_yes _ _ _ _ _ g5 g6 g7 g8 hg).mono ?_; rintro e w1 ⟨rfl, hb1⟩; have hc1 := bcell hb1))
              have hh : w1.cell? ⟨b, off + k * 4, none⟩ = some (.int .u64 (u vk)) ∧ w1.cell? ⟨wr.heap.size, 0, none⟩ = some (.int .i64 aj) ∧ w1.cell? ⟨wr.heap.size, 1, none⟩ = some (.int .i64 nj) ∧ w1.cell? ⟨wr.heap.size, 2, none⟩ = some (.int .u64 (u vj)) := by assumption
              have hs1 : wr.heap.size + 1 ≤ w1.heap.size := by have := hb1.size; simpa using this
              have z1 : b < w1.heap.size := by omega
              have z2 : wr.heap.size < w1.heap.size := by omega
              have HB1 := Lib.hid (bel_trans (Below.drew (bel_alloc hBi.out _)) hb1)
              have HB2 := Lib.hid (bel_trans (Below.drew (bel_alloc hBr.out _)) hb1)
              clear hc1 hb1
              go_wp2_with (go_at_call 16; refine (rfield_any _ _ _ _).mono ?_; rintro e w2 ⟨rfl, hb2⟩; have hc2 := bcell hb2)
              have hh2 : w2.cell? ⟨b, off + k * 4, none⟩ = some (.int .u64 (u vk)) ∧ w2.cell? ⟨wr.heap.size, 0, none⟩ = some (.int .i64 aj) ∧ w2.cell? ⟨wr.heap.size, 1, none⟩ = some (.int .i64 nj) ∧ w2.cell? ⟨wr.heap.size, 2, none⟩ = some (.int .u64 (u vj)) := by
                obtain ⟨a1, a2, a3, a4⟩ := hh
                exact ⟨(hc2 _ _ z1).trans a1, (hc2 _ _ z2).trans a2, (hc2 _ _ z2).trans a3, (hc2 _ _ z2).trans a4⟩
              have hs2 := hb2.size
              have y1 : b < w2.heap.size := by omega
              have y2 : wr.heap.size < w2.heap.size := by omega
              clear hc2 z1 z2 hh
              obtain ⟨a1, a2, a3, a4⟩ := hh2
              go_region_held3 (fun w' => w'.cell? ⟨b, off + k * 4, none⟩ = some (.int .u64 (u vk)) ∧ w'.cell? ⟨wr.heap.size, 0, none⟩ = some (.int .i64 aj) ∧ w'.cell? ⟨wr.heap.size, 1, none⟩ = some (.int .i64 nj) ∧ w'.cell? ⟨wr.heap.size, 2, none⟩ = some (.int .u64 (u vj))) (go_keep)
                (first | (go_at_call 17; refine (rput_any _ _ _ _ _ q1 q2 q3).mono ?_; rintro e w3 ⟨rfl, hb3⟩; have r1 := (bcell hb3 _ _ y1).trans a1; have r2 := (bcell hb3 _ _ y2).trans a2; have r3 := (bcell hb3 _ _ y2).trans a3; have r4 := (bcell hb3 _ _ y2).trans a4))
              go_wp2_with (go_at_call 10; refine (num_any _ _).mono ?_; rintro e w4 ⟨rfl, rfl⟩)
              go_roundw
              case rel => exact ⟨j + 1, by omega, by go_num, bel_trans (Below.drew (bel_trans HB1.out hb2)) hb3, bel_trans (Below.drew (bel_trans HB2.out hb2)) hb3⟩
              case measure => simp [intOf]; omega
          · by_cases hq : j < lk
            · have hq' : ¬ (j < 10) := by omega
              have hBi := Lib.hid hbi
              clear hbi hbr hx
              go_wp2
              go_roundw
              case rel => exact ⟨k + 1, by omega, by go_num, hBi.out⟩
              case measure => simp [intOf]; omega
            · have hBi := Lib.hid hbi
              clear hbi hbr hx
              go_wp2
              go_roundw
              case rel => exact ⟨k + 1, by omega, by go_num, hBi.out⟩
              case measure => simp [intOf]; omega
    · by_cases hq : k < len
      · have hq' : ¬ (k < 15) := by omega
        go_wp2_with (go_at_call 13; refine (wakes_any _).mono ?_; rintro e w1 ⟨rfl, hb1⟩)
        go_ret
        exact ⟨rfl, bel_trans hb hb1⟩
      · go_wp2_with (go_at_call 13; refine (wakes_any _).mono ?_; rintro e w1 ⟨rfl, hb1⟩)
        go_ret
        exact ⟨rfl, bel_trans hb hb1⟩
end Go.Proofs.Ytgbkgapjmmadoaa
