/- Contracts of word.Put, Join, Free, and of the reference's Field, Put, Join. -/
import Derived.Test.YtgbkgapjmmadoaaLays
namespace Go.Proofs.Ytgbkgapjmmadoaa
open Go.ChangeShapes Go.WideShapes Go.ChangeAt Go.RowKit

def layR (X : Nat → Fld) (l : Nat) : BitVec 64 × BitVec 64 × Int := if ∀ j, j < l → okF (X j) = true then layAll X l else (0#64, 0#64, 1)

theorem lay_any (f : Option Addr) (l cap : Nat) (X : Nat → Fld) (w : World) (hl : l ≤ 9223372036854775807) (h : FldsAt w f l X) :
    Calls Try.prog 26 #[.slice f l cap] w fun e w' => e = .returned (tup3 (layR X l)) ∧ Below w.heap.size w w' := by
  by_cases h0 : l = 0
  · subst h0
    refine (lay_empty f cap w).mono fun e w' hh => ?_
    obtain ⟨rfl, rfl⟩ := hh
    exact ⟨rfl, Below.refl _ _⟩
  · obtain ⟨b, o, rfl, hc⟩ := flds_pos h (by omega)
    by_cases hok : ∀ j, j < l → okF (X j) = true
    · unfold layR
      rw [if_pos hok]
      exact lay_ok b o l cap X w hl hc hok
    · unfold layR
      rw [if_neg hok]
      refine lay_bad b o l cap X w hl hc ?_
      simp only [Classical.not_forall] at hok
      obtain ⟨j, hj, hx⟩ := hok
      exact ⟨j, hj, by simpa using hx⟩

theorem layR_one (x : Fld) : layR (fun _ => x) 1 = if okF x = true then (mskF x, bitF x, 0) else (0#64, 0#64, 1) := by
  unfold layR layAll
  by_cases h : okF x = true
  · rw [if_pos (fun _ _ => h), if_pos h]
    simp [layFrom]
  · rw [if_neg (fun hh => h (hh 0 (by omega))), if_neg h]

def putV (v : BitVec 64) (x : Fld) : BitVec 64 := (v &&& ~~~ (mskF x)) ||| bitF x

theorem put_yes (v : BitVec 64) (a n : Int) (x : BitVec 64) (w : World) (hn : n ≤ 9223372036854775807) (hn' : -9223372036854775808 ≤ n) (ha : a ≤ 9223372036854775807) (ha' : -9223372036854775808 ≤ a) (h : okF ⟨a, n, x⟩ = true) :
    Calls Try.prog 15 #[.int .u64 (u v), .agg #[.int .i64 a, .int .i64 n, .int .u64 (u x)]] w fun e w' => e = .returned (.tuple #[.int .u64 (u (putV v ⟨a, n, x⟩)), .int .i64 0]) ∧ Below w.heap.size w w' := by
  have hlay : ∀ W : World, FldsAt W (some ⟨w.heap.size + 1, 0, none⟩) 1 (fun _ => ⟨a, n, x⟩) →
      Calls Try.prog 26 #[.slice (some ⟨w.heap.size + 1, 0, none⟩) 1 1] W fun e w' => e = .returned (.tuple #[.int .u64 (u (mskF ⟨a, n, x⟩)), .int .u64 (u (bitF ⟨a, n, x⟩)), .int .i64 0]) ∧ Below W.heap.size W w' := by
    intro W hW
    have hl := lay_any _ 1 1 _ W (by omega) hW
    rw [layR_one, if_pos h] at hl
    exact hl
  have HL := Lib.hid hlay
  clear hlay h
  go_enter Try.func15, Try.ntmps15
  go_wp2_with fail
  refine (HL.out _ ?_).mono ?_
  · intro j hj
    obtain rfl : j = 0 := by omega
    refine ⟨_, _, rfl, ?_⟩
    constructor <;> first | assumption | (simp [go_sem]; done)
  rintro e w' ⟨rfl, hb⟩
  go_wp2
  go_ret2
  exact ⟨rfl, bel_trans (by repeat' (first | exact Below.refl _ _ | refine bel_alloc ?_ _)) hb⟩

theorem put_no (v : BitVec 64) (a n : Int) (x : BitVec 64) (w : World) (hn : n ≤ 9223372036854775807) (hn' : -9223372036854775808 ≤ n) (ha : a ≤ 9223372036854775807) (ha' : -9223372036854775808 ≤ a) (h : okF ⟨a, n, x⟩ = false) :
    Calls Try.prog 15 #[.int .u64 (u v), .agg #[.int .i64 a, .int .i64 n, .int .u64 (u x)]] w fun e w' => e = .returned (.tuple #[.int .u64 0, .int .i64 1]) ∧ Below w.heap.size w w' := by
  have hlay : ∀ W : World, FldsAt W (some ⟨w.heap.size + 1, 0, none⟩) 1 (fun _ => ⟨a, n, x⟩) →
      Calls Try.prog 26 #[.slice (some ⟨w.heap.size + 1, 0, none⟩) 1 1] W fun e w' => e = .returned (.tuple #[.int .u64 (u 0#64), .int .u64 (u 0#64), .int .i64 1]) ∧ Below W.heap.size W w' := by
    intro W hW
    have hl := lay_any _ 1 1 _ W (by omega) hW
    rw [layR_one, if_neg (by rw [h]; decide)] at hl
    exact hl
  have HL := Lib.hid hlay
  clear hlay h
  go_enter Try.func15, Try.ntmps15
  go_wp2_with fail
  refine (HL.out _ ?_).mono ?_
  · intro j hj
    obtain rfl : j = 0 := by omega
    refine ⟨_, _, rfl, ?_⟩
    constructor <;> first | assumption | (simp [go_sem]; done)
  rintro e w' ⟨rfl, hb⟩
  go_wp2
  go_ret2
  exact ⟨rfl, bel_trans (by repeat' (first | exact Below.refl _ _ | refine bel_alloc ?_ _)) hb⟩

theorem join_any (f : Option Addr) (l cap : Nat) (X : Nat → Fld) (w : World) (hl : l ≤ 9223372036854775807) (h : FldsAt w f l X) :
    Calls Try.prog 18 #[.slice f l cap] w fun e w' => e = .returned (.tuple #[.int .u64 (u (layR X l).2.1), .int .i64 (layR X l).2.2]) ∧ Below w.heap.size w w' := by
  have HL := Lib.hid (lay_any f l cap X w hl h)
  generalize layR X l = r at HL ⊢
  obtain ⟨rh, rb, re⟩ := r
  unfold tup3 at HL
  simp only at HL ⊢
  clear h
  go_enter Try.func18, Try.ntmps18
  go_wp2_with fail
  refine HL.out.mono ?_
  rintro e w' ⟨rfl, hb⟩
  go_wp2
  go_ret2
  exact ⟨rfl, hb⟩

theorem free_any (f : Option Addr) (l cap : Nat) (X : Nat → Fld) (w : World) (hl : l ≤ 9223372036854775807) (h : FldsAt w f l X) :
    Calls Try.prog 19 #[.slice f l cap] w fun e w' => e = .returned (.tuple #[.int .u64 (u (if (layR X l).2.2 = 0 then ~~~ (layR X l).1 else 0#64)), .int .i64 (layR X l).2.2]) ∧ Below w.heap.size w w' := by
  have HL := Lib.hid (lay_any f l cap X w hl h)
  generalize layR X l = r at HL ⊢
  obtain ⟨rh, rb, re⟩ := r
  unfold tup3 at HL
  simp only at HL ⊢
  clear h
  by_cases hz : re = 0
  · subst hz
    rw [if_pos rfl]
    go_enter Try.func19, Try.ntmps19
    go_wp2_with fail
    refine HL.out.mono ?_
    rintro e w' ⟨rfl, hb⟩
    go_wp2
    go_ret2
    exact ⟨rfl, hb⟩
  · rw [if_neg hz]
    have hz' : (re != 0) = true := by simpa using hz
    clear hz
    go_enter Try.func19, Try.ntmps19
    go_wp2_with fail
    refine HL.out.mono ?_
    rintro e w' ⟨rfl, hb⟩
    go_wp2
    go_ret2
    exact ⟨rfl, hb⟩

theorem fits_no (a n : Int) (w : World) (h : okB a n = false) :
    Calls Try.prog 25 #[.int .i64 a, .int .i64 n] w fun e w' => e = .returned (.bool false) ∧ w' = w :=
  (fits_any a n w).mono fun _ _ ⟨he, hw⟩ => ⟨by rw [he, h], hw.symm⟩
theorem fits_yes (a n : Int) (w : World) (h : okB a n = true) :
    Calls Try.prog 25 #[.int .i64 a, .int .i64 n] w fun e w' => e = .returned (.bool true) ∧ w' = w :=
  (fits_any a n w).mono fun _ _ ⟨he, hw⟩ => ⟨by rw [he, h], hw.symm⟩
theorem mask_same (n : Int) (w : World) (h0 : 0 ≤ n) :
    Calls Try.prog 22 #[.int .i64 n] w fun e w' => e = .returned (.int .u64 (u (msk n))) ∧ w' = w :=
  (mask_any n w h0).mono fun _ _ ⟨he, hw⟩ => ⟨he, hw.symm⟩

theorem rfield_no (a n : Int) (x : BitVec 64) (w : World) (h : okB a n = false) :
    Calls Try.prog 16 #[.agg #[.int .i64 a, .int .i64 n, .int .u64 (u x)]] w fun e w' => e = .returned (.bool (okF ⟨a, n, x⟩)) ∧ Below w.heap.size w w' := by
  have hc := fun W => fits_no a n W h
  have HC := Lib.hid hc
  have hv : okF ⟨a, n, x⟩ = false := by unfold okF; rw [h]; rfl
  rw [hv]
  clear hc h hv
  go_enter Try.func16, Try.ntmps16
  go_wp2
  go_quiet ((go_at_call 25; exact Calls.quiet_of_same (HC.out _)))
  go_wp2
  go_ret
  exact ⟨rfl, below_drewN (bel_alloc (Below.refl _ _) _) _⟩

theorem rfield_yes (a n : Int) (x : BitVec 64) (w : World) (h : okB a n = true) :
    Calls Try.prog 16 #[.agg #[.int .i64 a, .int .i64 n, .int .u64 (u x)]] w fun e w' => e = .returned (.bool (okF ⟨a, n, x⟩)) ∧ Below w.heap.size w w' := by
  have hc := fun W => fits_yes a n W h
  have HC := Lib.hid hc
  obtain ⟨h0, h1, h2⟩ := okB_true h
  have hv : okF ⟨a, n, x⟩ = (u (x &&& ~~~ (msk n)) == 0) := by unfold okF; rw [h, room_beq x n (by omega) (by omega)]; rfl
  have HV := Lib.hid hv
  clear hc h hv
  go_enter Try.func16, Try.ntmps16
  go_wp2
  go_quiet (first | (go_at_call 25; exact Calls.quiet_of_same (HC.out _)) | (go_at_call 22; exact Calls.quiet_of_same (mask_same _ _ (by omega))))
  go_wp2
  go_ret
  rw [HV.out]
  exact ⟨rfl, below_drewN (bel_alloc (Below.refl _ _) _) _⟩

theorem rfield_any (a n : Int) (x : BitVec 64) (w : World) :
    Calls Try.prog 16 #[.agg #[.int .i64 a, .int .i64 n, .int .u64 (u x)]] w fun e w' => e = .returned (.bool (okF ⟨a, n, x⟩)) ∧ Below w.heap.size w w' := by
  cases h : okB a n
  · exact rfield_no a n x w h
  · exact rfield_yes a n x w h

theorem rput_any (v : BitVec 64) (a n : Int) (x : BitVec 64) (w : World) (h0 : 0 ≤ a) (h1 : 1 ≤ n) (h2 : a + n ≤ 64) :
    Calls Try.prog 17 #[.int .u64 (u v), .agg #[.int .i64 a, .int .i64 n, .int .u64 (u x)]] w fun e w' => e = .returned (.int .u64 (u (putV v ⟨a, n, x⟩))) ∧ Below w.heap.size w w' := by
  go_enter Try.func17, Try.ntmps17
  go_wp2
  go_quiet ((go_at_call 22; exact Calls.quiet_of_same (mask_same _ _ (by omega))))
  go_wp2
  go_ret
  exact ⟨rfl, below_drewN (bel_alloc (Below.refl _ _) _) _⟩
end Go.Proofs.Ytgbkgapjmmadoaa
