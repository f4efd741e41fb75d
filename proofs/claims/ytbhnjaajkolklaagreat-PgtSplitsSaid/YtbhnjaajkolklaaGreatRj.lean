/- The contract of the reference's Join. -/
import Derived.Test.YtbhnjaajkolklaaGreatLy
set_option linter.all false
namespace Go.Proofs.YtbhnjaajkolklaaGreat
open Go.ChangeShapes Go.WideShapes Go.ChangeAt Go.RowKit Go.Deep

theorem rfield_no (a n : Int) (x : BitVec 64) (w : World) (h : okB a n = false) :
    Calls Tryz.prog 81 #[.agg #[.int .i64 a, .int .i64 n, .int .u64 (u x)]] w fun e w' => e = .returned (.bool (okF ⟨a, n, x⟩)) ∧ Below w.heap.size w w' := by
  have hc := fun W => fits_no a n W h
  have HC := Lib.hid hc
  have hv : okF ⟨a, n, x⟩ = false := by unfold okF; rw [h]; rfl
  rw [hv]
  clear hc h hv
  go_enter Tryz.func81, Tryz.ntmps81
  go_wp2
  go_quiet ((go_at_call 98; exact Calls.quiet_of_same (HC.out _)))
  go_wp2
  go_ret
  exact ⟨rfl, below_drewN (bel_alloc (Below.refl _ _) _) _⟩

theorem rfield_yes (a n : Int) (x : BitVec 64) (w : World) (h : okB a n = true) :
    Calls Tryz.prog 81 #[.agg #[.int .i64 a, .int .i64 n, .int .u64 (u x)]] w fun e w' => e = .returned (.bool (okF ⟨a, n, x⟩)) ∧ Below w.heap.size w w' := by
  have hc := fun W => fits_yes a n W h
  have HC := Lib.hid hc
  obtain ⟨h0, h1, h2⟩ := okB_true h
  have hv : okF ⟨a, n, x⟩ = (u (x &&& ~~~ (msk n)) == 0) := by unfold okF; rw [h, room_beq x n (by omega) (by omega)]; rfl
  have HV := Lib.hid hv
  clear hc h hv
  go_enter Tryz.func81, Tryz.ntmps81
  go_wp2
  go_quiet (first | (go_at_call 98; exact Calls.quiet_of_same (HC.out _)) | (go_at_call 82; exact Calls.quiet_of_same (mask_same _ _ (by omega))))
  go_wp2
  go_ret
  rw [HV.out]
  exact ⟨rfl, below_drewN (bel_alloc (Below.refl _ _) _) _⟩

theorem rfield_any (a n : Int) (x : BitVec 64) (w : World) :
    Calls Tryz.prog 81 #[.agg #[.int .i64 a, .int .i64 n, .int .u64 (u x)]] w fun e w' => e = .returned (.bool (okF ⟨a, n, x⟩)) ∧ Below w.heap.size w w' := by
  cases h : okB a n
  · exact rfield_no a n x w h
  · exact rfield_yes a n x w h

def tup3r (r : BitVec 64 × BitVec 64 × Int) : Value := .tuple #[.int .u64 (u r.2.1), .int .u64 (u r.1), .int .i64 r.2.2]

theorem rjoin_empty (a : Option Addr) (cap : Nat) (w : World) :
    Calls Tryz.prog 63 #[.slice a 0 cap] w fun e w' => e = .returned (.tuple #[.int .u64 (u 0#64), .int .u64 (u 0#64), .int .i64 0]) ∧ w = w' := by
  go_enter Tryz.func63, Tryz.ntmps63
  go_wp2
  refine wp_loop_rounds 1 ?_
  rw [rounds_succ]
  go_wp2
  refine wp_loop_rounds 1 ?_
  rw [rounds_succ]
  go_wp2
  go_ret3
  exact ⟨rfl, rfl⟩

set_option maxRecDepth 100000 in
theorem rjoin_bad (b o len cap : Nat) (X : Nat → Fld) (w : World) (hl : len ≤ 9223372036854775807)
    (hc : ∀ j, j < len → FieldAt w b (o + j * 3) (X j).a (X j).n (X j).v) (hbad : ∃ j, j < len ∧ okF (X j) = false) :
    Calls Tryz.prog 63 #[.slice (some ⟨b, o, none⟩) len cap] w fun e w' => e = .returned (.tuple #[.int .u64 0, .int .u64 0, .int .i64 1]) ∧ Below w.heap.size w w' := by
  have HC := Lib.hid hc
  have HB := Lib.hid hbad
  clear hc hbad
  go_enter Tryz.func63, Tryz.ntmps63
  go_wp2
  go_loopw [5] (fun i wr => ∃ k : Nat, k ≤ len ∧ i = .int .i64 k ∧ Below w.heap.size w wr ∧ Hid (∀ j, j < k → okF (X j) = true)) (fun i _ => len - (intOf i).toNat)
  case atStart => exact ⟨0, Nat.zero_le _, rfl, Below.refl _ _, fun j hj => absurd hj (by omega)⟩
  case round =>
    obtain ⟨k, hk, rfl, hb, HJ⟩ := hrel
    by_cases hlt : k < len
    · have ha := (HC.out k hlt).below hb
      obtain ⟨h1, h2, h3, h4, h5, h6, h7, h8⟩ := ha
      cases hx : X k with
      | mk ak nk vk =>
      rw [hx] at h2 h3 h4 h5 h6 h7 h8
      simp only at h2 h3 h4 h5 h6 h7 h8
      have Hx := Lib.hid hx
      clear hx
      have hB := Lib.hid hb
      clear hb
      cases hg : okF ⟨ak, nk, vk⟩
      · go_wp2_with (go_at_call 81; refine (rfield_any _ _ _ _).mono ?_; rintro e w1 ⟨rfl, hb1⟩)
        go_ret3
        exact ⟨rfl, bel_trans hB.out hb1⟩
      · go_wp2_with (go_at_call 81; refine (rfield_any _ _ _ _).mono ?_; rintro e w1 ⟨rfl, hb1⟩)
        go_roundw
        case rel =>
          refine ⟨k + 1, by omega, by go_num, bel_trans hB.out hb1, fun j hj => ?_⟩
          by_cases hjk : j = k
          · rw [hjk, Hx.out]; exact hg
          · exact HJ.out j (by omega)
        case measure => simp [intOf]; omega
    · obtain ⟨j, hj, hf⟩ := HB.out
      have := HJ.out j (by omega)
      rw [hf] at this
      cases this

set_option maxRecDepth 100000 in
set_option maxHeartbeats 800000 in
theorem rjoin_ok (b o len cap : Nat) (X : Nat → Fld) (w : World) (hl : len ≤ 9223372036854775807)
    (hc : ∀ j, j < len → FieldAt w b (o + j * 3) (X j).a (X j).n (X j).v) (hok : ∀ j, j < len → okF (X j) = true) :
    Calls Tryz.prog 63 #[.slice (some ⟨b, o, none⟩) len cap] w fun e w' => e = .returned (tup3r (layAll X len)) ∧ Below w.heap.size w w' := by
  have HC := Lib.hid hc
  have HO := Lib.hid hok
  clear hc hok
  go_enter Tryz.func63, Tryz.ntmps63
  go_wp2
  go_loopw [5] (fun i wr => ∃ k : Nat, k ≤ len ∧ i = .int .i64 k ∧ Below w.heap.size w wr) (fun i _ => len - (intOf i).toNat)
  case atStart => exact ⟨0, Nat.zero_le _, rfl, Below.refl _ _⟩
  case round =>
    obtain ⟨k, hk, rfl, hb⟩ := hrel
    by_cases hlt : k < len
    · have ha := (HC.out k hlt).below hb
      obtain ⟨h1, h2, h3, h4, h5, h6, h7, h8⟩ := ha
      have hg := HO.out k hlt
      cases hx : X k with
      | mk ak nk vk =>
      rw [hx] at h2 h3 h4 h5 h6 h7 h8 hg
      simp only at h2 h3 h4 h5 h6 h7 h8
      clear hx
      have hB := Lib.hid hb
      clear hb
      go_wp2_with (go_at_call 81; refine (rfield_any _ _ _ _).mono ?_; rintro e w1 ⟨rfl, hb1⟩)
      go_roundw
      case rel => exact ⟨k + 1, by omega, by go_num, bel_trans hB.out hb1⟩
      case measure => simp [intOf]; omega
    · go_wp2
      obtain ⟨wo, rfl⟩ : ∃ wo : World, wo = wr := ⟨_, rfl⟩
      go_loopw [6, 7, 8] (fun v2 v3 i wr => ∃ (m : Nat) (h g : BitVec 64), m ≤ len ∧ v3 = .int .u64 (u h) ∧ v2 = .int .u64 (u g) ∧ i = .int .i64 m ∧ Below w.heap.size w wr ∧ Hid (layFrom X (len - m) m h g = layAll X len)) (fun _ _ i _ => len - (intOf i).toNat)
      case atStart => exact ⟨0, 0#64, 0#64, Nat.zero_le _, rfl, rfl, rfl, hb, rfl⟩
      case round =>
        obtain ⟨m, h, g, hm, rfl, rfl, rfl, hb2, HL⟩ := hrel
        by_cases hlm : m < len
        · have ha := (HC.out m hlm).below hb2
          obtain ⟨h1, h2, h3, h4, h5, h6, h7, h8⟩ := ha
          have hg := HO.out m hlm
          cases hx : X m with
          | mk ak nk vk =>
          rw [hx] at h2 h3 h4 h5 h6 h7 h8 hg
          simp only at h2 h3 h4 h5 h6 h7 h8
          obtain ⟨g1, g2, g3⟩ := okF_ok hg
          simp only at g1 g2 g3
          have Hx := Lib.hid hx
          clear hx hg
          have hB := Lib.hid hb2
          clear hb2
          have i1 : (0 : Int) ≤ (m : Int) := by omega
          have i2 : (m : Int) < (len : Int) := by omega
          by_cases ht : h &&& mskF ⟨ak, nk, vk⟩ = 0#64
          · have hq : (u (h &&& (msk nk <<< ak.toNat)) != 0) = false := by
              rw [show (0 : Int) = u 0#64 from by decide, u_bne]
              exact decide_eq_false (fun hh => hh ht)
            have HT := Lib.hid ht
            clear ht
            go_wp2_with fail
            go_quiet ((go_at_call 82; exact Calls.quiet_of_same (mask_same _ _ (by omega))))
            go_wp2
            go_quiet (fail)
            go_wp2
            go_roundw
            case rel =>
              refine ⟨m + 1, _, _, by omega, rfl, rfl, by go_num, below_drewN hB.out _, ?_⟩
              have hl := HL.out
              rw [show len - m = (len - (m + 1)) + 1 from by omega, layFrom_yes (by rw [Hx.out]; exact HT.out), Hx.out] at hl
              exact hl
            case measure => simp [intOf]; omega
          · have hq : (u (h &&& (msk nk <<< ak.toNat)) != 0) = true := by
              rw [show (0 : Int) = u 0#64 from by decide, u_bne]
              exact decide_eq_true ht
            have HT := Lib.hid ht
            clear ht
            go_wp2_with fail
            go_quiet ((go_at_call 82; exact Calls.quiet_of_same (mask_same _ _ (by omega))))
            go_wp2
            go_ret3
            have hl := HL.out
            rw [layFrom_no (by omega) (by rw [Hx.out]; exact HT.out)] at hl
            rw [← hl]
            exact ⟨rfl, below_drewN hB.out _⟩
        · have hB := Lib.hid hb2
          clear hb2
          go_wp2
          go_ret3
          have hl := HL.out
          rw [show len - m = 0 from by omega, layFrom_done] at hl
          rw [← hl]
          exact ⟨rfl, hB.out⟩

theorem rjoin_any (f : Option Addr) (l cap : Nat) (X : Nat → Fld) (w : World) (hl : l ≤ 9223372036854775807) (h : FldsAt w f l X) :
    Calls Tryz.prog 63 #[.slice f l cap] w fun e w' => e = .returned (tup3r (layR X l)) ∧ Below w.heap.size w w' := by
  by_cases h0 : l = 0
  · subst h0
    refine (rjoin_empty f cap w).mono fun e w' hh => ?_
    obtain ⟨rfl, rfl⟩ := hh
    exact ⟨rfl, Below.refl _ _⟩
  · obtain ⟨b, o, rfl, hc⟩ := flds_pos h (by omega)
    by_cases hok : ∀ j, j < l → okF (X j) = true
    · unfold layR
      rw [if_pos hok]
      exact rjoin_ok b o l cap X w hl hc hok
    · unfold layR
      rw [if_neg hok]
      refine rjoin_bad b o l cap X w hl hc ?_
      simp only [Classical.not_forall] at hok
      obtain ⟨j, hj, hx⟩ := hok
      exact ⟨j, hj, by simpa using hx⟩
end Go.Proofs.YtbhnjaajkolklaaGreat
