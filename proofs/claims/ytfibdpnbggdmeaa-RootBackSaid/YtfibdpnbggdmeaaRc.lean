/- The small functions of package root and of its reference: contracts. -/
import Derived.Test.YtfibdpnbggdmeaaRa
namespace Go.Proofs.Ytfibdpnbggdmeaa
open Go.ChangeShapes Go.WideShapes Go.ChangeAt Go.RowKit Go.Deep

theorem isUpTo_any (p m : Int) (w : World) :
    Calls Try.prog 22 #[.int .i64 p, .int .i64 m] w fun e w' => e = .returned (.bool (numB p m)) ∧ w = w' := by
  go_enter Try.func22, Try.ntmps22
  go_wp2
  all_goals
    go_ret
    refine ⟨ret_bool ?_, rfl⟩
    unfold numB
    rw [Bool.eq_iff_iff]
    simp
    omega
theorem smayBeR_any (o : Bool) (f t : Int) (w : World) :
    Calls Try.prog 12 #[.agg #[.bool o, .int .i64 f, .int .i64 t]] w fun e w' => e = .returned (.bool (mayT ⟨o, f, t⟩)) ∧ Below w.heap.size w w' := by
  have hm : mayT ⟨o, f, t⟩ = (numB f 4095 && numB t 15) := rfl
  rw [hm]
  have HF := Lib.hid (fun W => isUpTo_any f 4095 W)
  have HT := Lib.hid (fun W => isUpTo_any t 15 W)
  clear hm
  generalize numB f 4095 = a at *
  generalize numB t 15 = b at *
  cases a
  · go_enter Try.func12, Try.ntmps12
    go_wp2_with fail
    refine (HF.out _).mono ?_
    rintro e w' ⟨rfl, rfl⟩
    go_wp2
    go_ret
    exact ⟨rfl, by go_grown⟩
  · go_enter Try.func12, Try.ntmps12
    go_wp2_with fail
    refine (HF.out _).mono ?_
    rintro e w' ⟨rfl, rfl⟩
    go_wp2_with fail
    refine (HT.out _).mono ?_
    rintro e w' ⟨rfl, rfl⟩
    go_wp2
    go_ret
    exact ⟨rfl, by go_grown⟩
theorem rroot_any (o : Bool) (f t : Int) (w : World) :
    Calls Try.prog 6 #[.agg #[.bool o, .int .i64 f, .int .i64 t]] w fun e w' => e = .returned (.bool (mayT ⟨o, f, t⟩)) ∧ Below w.heap.size w w' := by
  have hm : mayT ⟨o, f, t⟩ = (numB f 4095 && numB t 15) := rfl
  rw [hm]
  have HF := Lib.hid (fun W => page_any f W)
  have HT := Lib.hid (fun W => num_any t 15 W)
  clear hm
  generalize numB f 4095 = a at *
  generalize numB t 15 = b at *
  cases a
  · go_enter Try.func6, Try.ntmps6
    go_wp2_with fail
    refine (HF.out _).mono ?_
    rintro e w' ⟨rfl, rfl⟩
    go_wp2
    go_ret
    exact ⟨rfl, by go_grown⟩
  · go_enter Try.func6, Try.ntmps6
    go_wp2_with fail
    refine (HF.out _).mono ?_
    rintro e w' ⟨rfl, rfl⟩
    go_wp2_with fail
    refine (HT.out _).mono ?_
    rintro e w' ⟨rfl, rfl⟩
    go_wp2
    go_ret
    exact ⟨rfl, by go_grown⟩
theorem on_any (o : Bool) (f t : Int) (w : World) :
    Calls Try.prog 24 #[.agg #[.bool o, .int .i64 f, .int .i64 t]] w fun e w' => e = .returned (.int .u64 (u (bitFl 0 o).v)) ∧ Below w.heap.size w w' := by
  have h1 : u (bitFl 0 true).v = 1 := by show u 1#64 = 1; decide
  have h0 : u (bitFl 0 false).v = 0 := by show u 0#64 = 0; decide
  cases o
  · rw [h0]
    clear h1 h0
    go_enter Try.func24, Try.ntmps24
    go_wp2
    go_ret
    exact ⟨rfl, by go_grown⟩
  · rw [h1]
    clear h1 h0
    go_enter Try.func24, Try.ntmps24
    go_wp2
    go_ret
    exact ⟨rfl, by go_grown⟩
theorem fbitsR_any (o : Bool) (f t : Int) (v : BitVec 64) (p m : Int) (w : World) (h : okB p m = true) (hm : m ≤ 12) :
    Calls Try.prog 27 #[.agg #[.bool o, .int .i64 f, .int .i64 t, .int .u64 (u v)], .int .i64 p, .int .i64 m] w fun e w' => e = .returned (.int .i64 (getN v p m)) ∧ Below w.heap.size w w' := by
  obtain ⟨h0, h1, h2⟩ := okB_true h
  have hb := getN_bd v p m (by omega) hm
  have HG := Lib.hid (fun W => get_yes v p m W h)
  have he : u (v >>> p.toNat &&& msk m) = getN v p m := rfl
  rw [he] at HG
  clear he h h0 h1 h2
  generalize getN v p m = g at *
  obtain ⟨hb0, hb1⟩ := hb
  go_enter Try.func27, Try.ntmps27
  go_wp2_with fail
  refine (HG.out _).mono ?_
  rintro e w' ⟨rfl, rfl⟩
  go_wp2
  go_ret
  exact ⟨rfl, by go_grown⟩
theorem lnum4_any (n : Int) (w : World) :
    Calls Try.prog 10 #[.int .i64 n] w fun e w' => e = .returned (.int .i64 n) ∧ w = w' := by
  go_enter Try.func10, Try.ntmps10
  go_wp2
  go_ret
  exact ⟨rfl, rfl⟩
end Go.Proofs.Ytfibdpnbggdmeaa
