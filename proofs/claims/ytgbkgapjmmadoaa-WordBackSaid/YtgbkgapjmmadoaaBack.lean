/- The walk of WordBack. -/
import Derived.Test.YtgbkgapjmmadoaaPuts
import Derived.Test.YtgbkgapjmmadoaaBackM
namespace Go.Proofs.Ytgbkgapjmmadoaa
open Go.ChangeShapes Go.WideShapes Go.ChangeAt Go.RowKit

/-- A number within a bound, out of any. -/
def withinV (x n : Int) : Int := x % 18446744073709551616 % n
theorem within_lo (x n : Int) (h : 1 ≤ n) : 0 ≤ withinV x n := Int.emod_nonneg _ (by omega)
theorem within_hi (x n : Int) (h : 1 ≤ n) : withinV x n < n := Int.emod_lt_of_pos _ (by omega)

theorem within_any (x n : Int) (w : World) (h0 : 1 ≤ n) (h1 : n ≤ 9223372036854775807) :
    Calls Try.prog 21 #[.int .i64 x, .int .i64 n] w fun e w' => e = .returned (.int .i64 (withinV x n)) ∧ w = w' := by
  go_enter Try.func21, Try.ntmps21
  go_wp2
  go_ret
  refine ⟨ret_int ?_, rfl⟩
  have e : (IntKind.u64.wrap x).tmod n = withinV x n := by
    rw [IntKind.wrap_u64]
    exact Int.tmod_eq_emod_of_nonneg (Int.emod_nonneg _ (by omega))
  have l := within_lo x n h0
  have k := within_hi x n h0
  rw [e]
  exact IntWalk.wrap64_in _ ⟨by omega, by omega⟩

theorem back_empty (a : Option Addr) (cap : Nat) (w : World) :
    Calls Try.prog 6 #[.slice a 0 cap] w fun e w' => e = .returned (.bool true) ∧ Below w.heap.size w w' := by
  go_enter Try.func6, Try.ntmps6
  go_wp2
  refine wp_loop_rounds 1 ?_
  rw [rounds_succ]
  go_wp2_with (go_at_call 13; refine (wakes_any _).mono ?_; rintro e w' ⟨rfl, hb⟩)
  go_ret
  exact ⟨rfl, hb⟩

theorem keepc {w w' : World} (hb : Below w.heap.size w w') {b o : Nat} {x : Value} (hc : w.cell? ⟨b, o, none⟩ = some x) : w'.cell? ⟨b, o, none⟩ = some x :=
  (hb.cell (p := ⟨b, o, none⟩) (cell_block hc)).trans hc

theorem getW (v : BitVec 64) (a n : Int) (w : World) (h : okB a n = true) :
    Calls Try.prog 7 #[.int .u64 (u v), .int .i64 a, .int .i64 n] w fun e w' => e = .returned (.tuple #[.int .u64 (u (getV v a n)), .int .i64 0]) ∧ Below w.heap.size w w' :=
  (get_yes v a n w h).mono fun e w' ⟨he, hw⟩ => ⟨he, by rw [hw]; repeat' (first | exact Below.refl _ _ | refine bel_alloc ?_ _ | refine Below.drew ?_)⟩
theorem putW (v : BitVec 64) (a n : Int) (x : BitVec 64) (w : World) (h : okF ⟨a, n, x⟩ = true) :
    Calls Try.prog 15 #[.int .u64 (u v), .agg #[.int .i64 a, .int .i64 n, .int .u64 (u x)]] w fun e w' => e = .returned (.tuple #[.int .u64 (u (putV v ⟨a, n, x⟩)), .int .i64 0]) ∧ Below w.heap.size w w' := by
  obtain ⟨h0, h1, h2⟩ := okF_ok h
  simp only at h0 h1 h2
  exact put_yes v a n x w (by omega) (by omega) (by omega) (by omega) h

set_option maxRecDepth 100000 in
set_option maxHeartbeats 1600000 in
theorem back_walk (b off len cap : Nat) (w : World) (V : Nat → BitVec 64) (F : Nat → Option Addr) (L C : Nat → Nat) (A N : Nat → Int)
    (hc : ∀ i, i < len → AskAt w b (off + i * 4) (V i) (F i) (L i) (C i) (A i) (N i)) :
    Calls Try.prog 6 #[.slice (some ⟨b, off, none⟩) len cap] w fun e w' => e = .returned (.bool true) ∧ Below w.heap.size w w' := by
  have HC := Lib.hid hc
  clear hc
  go_enter Try.func6, Try.ntmps6
  go_wp2
  go_loopw [3] (fun i wr => ∃ k : Nat, k ≤ len ∧ i = .int .i64 k ∧ Below w.heap.size w wr) (fun i _ => len - (intOf i).toNat)
  case atStart => exact ⟨0, Nat.zero_le _, rfl, Below.refl _ _⟩
  case round =>
    obtain ⟨k, hk, rfl, hb⟩ := hrel
    by_cases hlt : k < len ∧ k < 15
    · obtain ⟨hlt, hlt'⟩ := hlt
      have ha := (HC.out k hlt).below hb
      obtain ⟨h1, h2, h3, h4, h5, h6, h7, h8, h9⟩ := ha
      generalize V k = vk at *
      generalize A k = ak at *
      generalize N k = nk at *
      have hB := Lib.hid hb
      clear hb
      go_wp2_with fail
      refine (within_any _ _ _ (by omega) (by omega)).mono ?_
      rintro e w1 ⟨rfl, rfl⟩
      have p0 := within_lo ak 64 (by omega)
      have p1 := within_hi ak 64 (by omega)
      generalize withinV ak 64 = pa at *
      go_wp2_with fail
      refine (within_any _ _ _ (by omega) (by omega)).mono ?_
      rintro e w1 ⟨rfl, rfl⟩
      have q0 := within_lo nk (64 - pa) (by omega)
      have q1 := within_hi nk (64 - pa) (by omega)
      generalize withinV nk (64 - pa) = pn at *
      go_wp2_with fail
      have hok : okB pa (1 + pn) = true := decide_eq_true ⟨by omega, by omega, by omega⟩
      have hf1 := okF_get (~~~ vk) pa (1 + pn) hok
      have hf2 := okF_get vk pa (1 + pn) hok
      have e1 := get_put vk (~~~ vk) pa (1 + pn) p0 (by omega) (by omega)
      have e2 := put_back vk (~~~ vk) pa (1 + pn) p0 (by omega) (by omega)
      have e3 := put_turns vk pa (1 + pn) p0 (by omega) (by omega)
      have E1 := Lib.hid e1
      have E2 := Lib.hid e2
      have E3 := Lib.hid e3
      have HOK := Lib.hid hok
      have HF1 := Lib.hid hf1
      have HF2 := Lib.hid hf2
      clear e1 e2 e3 hok hf1 hf2
      refine (getW _ _ _ _ HOK.out).mono ?_
      rintro e w1 ⟨rfl, hb1⟩
      have c1 := keepc hb1 h2
      have B1 := Lib.hid (bel_trans hB.out hb1)
      clear hb1
      go_wp2_with fail
      refine (getW _ _ _ _ HOK.out).mono ?_
      rintro e w2 ⟨rfl, hb2⟩
      have c2 := keepc hb2 c1
      have B2 := Lib.hid (bel_trans B1.out hb2)
      clear hb2
      go_wp2_with fail
      refine (putW _ _ _ _ _ HF1.out).mono ?_
      rintro e w3 ⟨rfl, hb3⟩
      have c3 := keepc hb3 c2
      have B3 := Lib.hid (bel_trans B2.out hb3)
      clear hb3
      go_wp2_with fail
      refine (putW _ _ _ _ _ HF2.out).mono ?_
      rintro e w4 ⟨rfl, hb4⟩
      have c4 := keepc hb4 c3
      have B4 := Lib.hid (bel_trans B3.out hb4)
      clear hb4
      go_wp2_with fail
      refine (getW _ _ _ _ HOK.out).mono ?_
      rintro e w5 ⟨rfl, hb5⟩
      have c5 := keepc hb5 c4
      have B5 := Lib.hid (bel_trans B4.out hb5)
      clear hb5
      rw [E1.out, E2.out]
      have hx : (u (putV vk ⟨pa, 1 + pn, getV (~~~ vk) pa (1 + pn)⟩ ^^^ vk) != u (msk (1 + pn) <<< pa.toNat)) = false := by rw [E3.out]; simp
      go_wp2_with (first
        | (go_at_call 10; refine (num_any _ _).mono ?_; rintro e w6 ⟨rfl, rfl⟩)
        | (go_at_call 22; refine (mask_any _ _ (by omega)).mono ?_; rintro e w6 ⟨rfl, rfl⟩))
      go_roundw
      case rel => exact ⟨k + 1, by omega, by go_num, B5.out⟩
      case measure => simp [intOf]; omega
    · by_cases hq : k < len
      · have hq' : ¬ (k < 15) := by omega
        go_wp2_with (go_at_call 13; refine (wakes_any _).mono ?_; rintro e w1 ⟨rfl, hb1⟩)
        go_ret
        exact ⟨rfl, bel_trans hb hb1⟩
      · go_wp2_with (go_at_call 13; refine (wakes_any _).mono ?_; rintro e w1 ⟨rfl, hb1⟩)
        go_ret
        exact ⟨rfl, bel_trans hb hb1⟩
end Go.Proofs.Ytgbkgapjmmadoaa
