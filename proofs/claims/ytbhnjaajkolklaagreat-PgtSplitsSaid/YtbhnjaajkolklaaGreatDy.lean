/- Covers and Index: contracts. -/
import Derived.Test.YtbhnjaajkolklaaGreatDg
set_option linter.all false
namespace Go.Proofs.YtbhnjaajkolklaaGreat
open Go.ChangeShapes Go.WideShapes Go.ChangeAt Go.RowKit Go.Deep

theorem dcovers_yes (lv : Int) (w : World) (h : numB lv 3 = true) :
    Calls Tryz.prog 41 #[.int .i64 lv] w fun e w' => e = .returned (.tuple #[.int .i64 (cov lv), .int .i64 0]) ∧ w = w' := by
  have hl := numB_iff.1 h
  have HL := Lib.hid (fun W => isLevel_any lv W)
  have HC := Lib.hid (fun W => covers_any lv W hl.1 hl.2)
  rw [h] at HL
  clear h hl
  go_enter Tryz.func41, Tryz.ntmps41
  go_wp2_with (first | (go_at_call 65; refine (HL.out _).mono ?_; rintro e w' ⟨rfl, rfl⟩) | (go_at_call 66; refine (HC.out _).mono ?_; rintro e w' ⟨rfl, rfl⟩))
  go_ret2
  exact ⟨rfl, rfl⟩

def idx (lv p : Int) : Int := p / cov lv % 8
theorem idx_get (lv : Int) (x : BitVec 64) (h0 : 0 ≤ lv) (h1 : lv ≤ 3) : getN x (3 * (3 - lv)) 3 = idx lv (u x) := by
  have hm : ∀ k : Nat, ((x >>> k &&& msk 3).toNat : Int) = (x.toNat : Int) / ((2 ^ k : Nat) : Int) % 8 := by
    intro k
    rw [BitVec.toNat_and, BitVec.toNat_ushiftRight, show (msk 3).toNat = 2 ^ 3 - 1 from by decide, Nat.and_two_pow_sub_one_eq_mod, Nat.shiftRight_eq_div_pow]
    norm_cast
  have hc : lv = 0 ∨ lv = 1 ∨ lv = 2 ∨ lv = 3 := by omega
  unfold getN idx u
  rcases hc with rfl | rfl | rfl | rfl
  · exact hm 9
  · exact hm 6
  · exact hm 3
  · exact hm 0
theorem dindex_no (lv p : Int) (w : World) (h : (numB lv 3 && numB p 4095) = false) :
    Calls Tryz.prog 92 #[.int .i64 lv, .int .i64 p] w fun e w' => e = .returned (.tuple #[.int .i64 0, .int .i64 1]) ∧ w = w' := by
  have HL := Lib.hid (fun W => isLevel_any lv W)
  have HP := Lib.hid (fun W => isPage_any p W)
  cases h1 : numB lv 3
  · rw [h1] at HL
    clear h1 h
    go_enter Tryz.func92, Tryz.ntmps92
    go_wp2_with (go_at_call 65; refine (HL.out _).mono ?_; rintro e w' ⟨rfl, rfl⟩)
    go_ret2
    exact ⟨rfl, rfl⟩
  · rw [h1, Bool.true_and] at h
    rw [h1] at HL
    rw [h] at HP
    clear h1 h
    go_enter Tryz.func92, Tryz.ntmps92
    go_wp2_with (first | (go_at_call 65; refine (HL.out _).mono ?_; rintro e w' ⟨rfl, rfl⟩) | (go_at_call 111; refine (HP.out _).mono ?_; rintro e w' ⟨rfl, rfl⟩))
    go_ret2
    exact ⟨rfl, rfl⟩
theorem dindex_yes (lv p : Int) (w : World) (h1 : numB lv 3 = true) (h2 : numB p 4095 = true) :
    Calls Tryz.prog 92 #[.int .i64 lv, .int .i64 p] w fun e w' => e = .returned (.tuple #[.int .i64 (idx lv p), .int .i64 0]) ∧ Below w.heap.size w w' := by
  have hl := numB_iff.1 h1
  have hp := numB_iff.1 h2
  obtain ⟨x, rfl⟩ := u_of p hp.1 (by omega)
  have HL := Lib.hid (fun W => isLevel_any lv W)
  have HP := Lib.hid (fun W => isPage_any (u x) W)
  have HB := Lib.hid (fun W => below_any lv W hl.1 hl.2)
  have HG := Lib.hid (fun W => get_yes x (3 * (3 - lv)) 3 W (by unfold okB; exact decide_eq_true (by omega)))
  have he : u (x >>> (3 * (3 - lv)).toNat &&& msk 3) = idx lv (u x) := idx_get lv x hl.1 hl.2
  have hb : 0 ≤ idx lv (u x) ∧ idx lv (u x) ≤ 7 := by unfold idx; omega
  rw [he] at HG
  rw [h1] at HL
  rw [h2] at HP
  clear h1 h2 he
  obtain ⟨hb0, hb1⟩ := hb
  generalize idx lv (u x) = g at *
  generalize 3 * (3 - lv) = q at *
  clear hl hp
  go_enter Tryz.func92, Tryz.ntmps92
  go_wp2_with (first | (go_at_call 65; refine (HL.out _).mono ?_; rintro e w' ⟨rfl, rfl⟩) | (go_at_call 111; refine (HP.out _).mono ?_; rintro e w' ⟨rfl, rfl⟩) | (go_at_call 84; refine (HB.out _).mono ?_; rintro e w' ⟨rfl, rfl⟩) | (go_at_call 112; refine (HG.out _).mono ?_; rintro e w' ⟨rfl, rfl⟩))
  go_ret2
  exact ⟨rfl, by go_grown⟩
theorem rindex_any (lv p : Int) (w : World) (h0 : 0 ≤ lv) (h1 : lv ≤ 3) (p0 : 0 ≤ p) (p1 : p ≤ 4095) :
    Calls Tryz.prog 38 #[.int .i64 lv, .int .i64 p] w fun e w' => e = .returned (.int .i64 (idx lv p)) ∧ Below w.heap.size w w' := by
  have HC := Lib.hid (fun W => rcovers_any lv W h0 h1)
  have hi : idx lv p = p / cov lv % 8 := rfl
  rw [hi]
  have hc := cov_pos lv
  clear hi
  generalize cov lv = c at *
  obtain ⟨c1, c2⟩ := hc
  have c0 : c ≠ 0 := by omega
  have d1 : p.tdiv c = p / c := Int.tdiv_eq_ediv_of_nonneg p0
  have d2 : 0 ≤ p / c := Int.ediv_nonneg p0 (by omega)
  have d3 : p / c ≤ 4095 := Int.le_trans (Int.ediv_le_self _ p0) p1
  have d4 : IntKind.i64.wrap (p / c) = p / c := IntWalk.i64_in _ (by omega)
  have d5 : (p / c).tmod 8 = p / c % 8 := Int.tmod_eq_emod_of_nonneg d2
  go_enter Tryz.func38, Tryz.ntmps38
  go_wp2_with (go_at_call 22; refine (HC.out _).mono ?_; rintro e w' ⟨rfl, hb⟩)
  go_ret
  exact ⟨ret_int rfl, hb⟩

section
variable {H : Type} {enc : TypeId × Value → H} {w : World} {base : Nat} {held : Bool}
theorem c_attr : Tryz.prog.cellsOf 35 = 6 := by kernel_rfl
theorem attr_cells {n : Nat} {cs : List Value} {y : DataW H × List MemPlace} (hlen : cs.length = 6) (h : DataW.trod enc Tryz.prog w base (fun _ => true) held n 35 cs = some y) :
    ∃ (r wr x a n : Bool) (s : Int), cs = [.bool r, .bool wr, .bool x, .bool a, .bool n, .int .i64 s] := by
  match cs, hlen with
  | [v0, v1, v2, v3, v4, v5], _ =>
    obtain ⟨_, _, t0⟩ := part_of Tryz.underlying35 h 0 0 1 4 ⟨_, rfl, rfl, rfl⟩ c_bool
    obtain ⟨_, _, t1⟩ := part_of Tryz.underlying35 h 1 1 1 4 ⟨_, rfl, rfl, rfl⟩ c_bool
    obtain ⟨_, _, t2⟩ := part_of Tryz.underlying35 h 2 2 1 4 ⟨_, rfl, rfl, rfl⟩ c_bool
    obtain ⟨_, _, t3⟩ := part_of Tryz.underlying35 h 3 3 1 4 ⟨_, rfl, rfl, rfl⟩ c_bool
    obtain ⟨_, _, t4⟩ := part_of Tryz.underlying35 h 4 4 1 4 ⟨_, rfl, rfl, rfl⟩ c_bool
    obtain ⟨_, _, t5⟩ := part_of Tryz.underlying35 h 5 5 1 3 ⟨_, rfl, rfl, rfl⟩ c_int
    obtain ⟨r, h0⟩ := bool_cells t0
    obtain ⟨wr, h1⟩ := bool_cells t1
    obtain ⟨x, h2⟩ := bool_cells t2
    obtain ⟨a, h3⟩ := bool_cells t3
    obtain ⟨n, h4⟩ := bool_cells t4
    obtain ⟨s, h5, _, _⟩ := int_cells t5
    refine ⟨r, wr, x, a, n, s, ?_⟩
    simp at h0 h1 h2 h3 h4 h5
    rw [h0, h1, h2, h3, h4, h5]
theorem desc_cells {n : Nat} {cs : List Value} {y : DataW H × List MemPlace} (hlen : cs.length = 9) (h : DataW.trod enc Tryz.prog w base (fun _ => true) held n 37 cs = some y) :
    ∃ d : Dsc, cs = [.int .i64 d.k, .int .i64 d.f, .bool d.r, .bool d.w, .bool d.x, .bool d.a, .bool d.n, .int .i64 d.s, .int .i64 d.o] ∧ d.k ≤ 9223372036854775807 ∧ -9223372036854775808 ≤ d.k ∧ d.f ≤ 9223372036854775807 ∧ -9223372036854775808 ≤ d.f := by
  match cs, hlen with
  | [v0, v1, v2, v3, v4, v5, v6, v7, v8], _ =>
    obtain ⟨_, _, t0⟩ := part_of Tryz.underlying37 h 0 0 1 3 ⟨_, rfl, rfl, rfl⟩ c_int
    obtain ⟨_, _, t1⟩ := part_of Tryz.underlying37 h 1 1 1 3 ⟨_, rfl, rfl, rfl⟩ c_int
    obtain ⟨_, _, t2⟩ := part_of Tryz.underlying37 h 2 2 6 35 ⟨_, rfl, rfl, rfl⟩ c_attr
    obtain ⟨_, _, t3⟩ := part_of Tryz.underlying37 h 3 8 1 3 ⟨_, rfl, rfl, rfl⟩ c_int
    obtain ⟨k, h0, b0, b1⟩ := int_cells t0
    obtain ⟨f, h1, b2, b3⟩ := int_cells t1
    obtain ⟨r, wr, x, a, n, s, h2⟩ := attr_cells rfl t2
    obtain ⟨o, h3, _, _⟩ := int_cells t3
    simp at h0 h1 h2 h3
    obtain ⟨h4, h5, h6, h7, h8, h9⟩ := h2
    exact ⟨⟨k, f, r, wr, x, a, n, s, o⟩, by rw [h0, h1, h3, h4, h5, h6, h7, h8, h9], b0, b1, b2, b3⟩
end
end Go.Proofs.YtbhnjaajkolklaaGreat
