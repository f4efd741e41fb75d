/- The walk of WordGets. -/
import Derived.Test.YtgbkgapjmmadoaaWord
import Derived.LoopTactic
import Derived.Test.YtgbkgapjmmadoaaAsks
namespace Go.Proofs.Ytgbkgapjmmadoaa
open Go.ChangeShapes Go.WideShapes Go.ChangeAt Go.RowKit

theorem gets_empty (a : Option Addr) (cap : Nat) (w : World) :
    Calls Try.prog 3 #[.slice a 0 cap] w fun e w' => e = .returned (.bool true) ∧ Below w.heap.size w w' := by
  go_enter Try.func3, Try.ntmps3
  go_wp2
  refine wp_loop_rounds 1 ?_
  rw [rounds_succ]
  go_wp2_with (go_at_call 13; refine (wakes_any _).mono ?_; rintro e w' ⟨rfl, hb⟩)
  go_ret
  exact ⟨rfl, hb⟩

set_option maxRecDepth 100000 in
theorem gets_walk (b off len cap : Nat) (w : World) (V : Nat → BitVec 64) (F : Nat → Option Addr) (L C : Nat → Nat) (A N : Nat → Int)
    (hc : ∀ i, i < len → AskAt w b (off + i * 4) (V i) (F i) (L i) (C i) (A i) (N i)) :
    Calls Try.prog 3 #[.slice (some ⟨b, off, none⟩) len cap] w fun e w' => e = .returned (.bool true) ∧ Below w.heap.size w w' := by
  have HC := Lib.hid hc
  clear hc
  go_enter Try.func3, Try.ntmps3
  go_wp2
  go_loopw [3] (fun i wr => ∃ k : Nat, k ≤ len ∧ i = .int .i64 k ∧ Below w.heap.size w wr) (fun i _ => len - (intOf i).toNat)
  case atStart => exact ⟨0, Nat.zero_le _, rfl, Below.refl _ _⟩
  case round =>
    obtain ⟨k, hk, rfl, hb⟩ := hrel
    by_cases hlt : k < len ∧ k < 15
    · obtain ⟨hlt, hlt'⟩ := hlt
      have ha := (HC.out k hlt).below hb
      obtain ⟨h1, h2, h3, h4, h5, h6, h7, h8, h9⟩ := ha
      generalize V k = vk at *
      generalize A k = ak at *
      generalize N k = nk at *
      generalize F k = fk at *
      generalize L k = lk at *
      generalize C k = ck at *
      have hB := Lib.hid hb
      clear hb
      cases hg : okB ak nk <;> cases hs : okB 0 nk
      all_goals
        go_wp2_with (first
          | (go_at_call 7; (first | refine (get_no _ _ _ _ h6 hg).mono ?_ | refine (get_yes _ _ _ _ hg).mono ?_); rintro e w1 ⟨rfl, rfl⟩)
          | (go_at_call 8; refine (fairly_any _ _ _).mono ?_; rintro e w1 ⟨rfl, rfl⟩)
          | (go_at_call 10; refine (num_any _ _).mono ?_; rintro e w1 ⟨rfl, rfl⟩)
          | (go_at_call 9; refine (rget_any _ _ _ _ (okB_true hg).1 (by have := okB_true hg; omega) (by have := okB_true hg; omega)).mono ?_; rintro e w1 ⟨rfl, m, rfl⟩)
          | (go_at_call 11; (first | refine (sign_no _ _ _ h6 hs).mono ?_ | refine (sign_yes _ _ _ hs).mono ?_); rintro e w1 ⟨rfl, rfl⟩)
          | (go_at_call 12; refine (rsign_any _ _ _ hs).mono ?_; rintro e w1 ⟨rfl, rfl⟩))
        go_roundw
        case rel => exact ⟨k + 1, by omega, by go_num, by repeat' (first | exact hB.out | refine bel_alloc ?_ _ | refine Below.drew ?_ | refine below_drewN ?_ _)⟩
        case measure => simp [intOf]; omega
    · by_cases hq : k < len
      · have hq' : ¬ (k < 15) := by omega
        go_wp2_with (go_at_call 13; refine (wakes_any _).mono ?_; rintro e w1 ⟨rfl, hb1⟩)
        go_ret
        exact ⟨rfl, bel_trans hb hb1⟩
      · go_wp2_with (go_at_call 13; refine (wakes_any _).mono ?_; rintro e w1 ⟨rfl, hb1⟩)
        go_ret
        exact ⟨rfl, bel_trans hb hb1⟩
end Go.Proofs.Ytgbkgapjmmadoaa
