/- The small functions of package root and of its reference: contracts. -/
import Derived.Test.YtlflfpohglgopaaRa
set_option linter.all false
namespace Go.Proofs.Ytlflfpohglgopaa
open Go.ChangeShapes Go.WideShapes Go.ChangeAt Go.RowKit Go.Deep

theorem on_any (o : Bool) (f t : Int) (w : World) :
    Calls Try.prog 54 #[.agg #[.bool o, .int .i64 f, .int .i64 t]] w fun e w' => e = .returned (.int .u64 (u (bitFl 0 o).v)) ∧ Below w.heap.size w w' := by
  have h1 : u (bitFl 0 true).v = 1 := by show u 1#64 = 1; decide
  have h0 : u (bitFl 0 false).v = 0 := by show u 0#64 = 0; decide
  cases o
  · rw [h0]
    clear h1 h0
    go_enter Try.func54, Try.ntmps54
    go_wp2
    go_ret
    exact ⟨rfl, by go_grown⟩
  · rw [h1]
    clear h1 h0
    go_enter Try.func54, Try.ntmps54
    go_wp2
    go_ret
    exact ⟨rfl, by go_grown⟩
theorem fbitsR_any (o : Bool) (f t : Int) (v : BitVec 64) (p m : Int) (w : World) (h : okB p m = true) (hm : m ≤ 12) :
    Calls Try.prog 51 #[.agg #[.bool o, .int .i64 f, .int .i64 t, .int .u64 (u v)], .int .i64 p, .int .i64 m] w fun e w' => e = .returned (.int .i64 (getN v p m)) ∧ Below w.heap.size w w' := by
  obtain ⟨h0, h1, h2⟩ := okB_true h
  have hb := getN_bd v p m (by omega) hm
  have HG := Lib.hid (fun W => get_yes v p m W h)
  have he : u (v >>> p.toNat &&& msk m) = getN v p m := rfl
  rw [he] at HG
  clear he h h0 h1 h2
  generalize getN v p m = g at *
  obtain ⟨hb0, hb1⟩ := hb
  go_enter Try.func51, Try.ntmps51
  go_wp2_with fail
  refine (HG.out _).mono ?_
  rintro e w' ⟨rfl, rfl⟩
  go_wp2
  go_ret
  exact ⟨rfl, by go_grown⟩
end Go.Proofs.Ytlflfpohglgopaa
