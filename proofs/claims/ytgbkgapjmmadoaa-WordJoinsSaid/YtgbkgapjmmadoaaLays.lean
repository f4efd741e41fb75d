/- The contract of word.lay, Put, Join, Free. -/
import Derived.Test.YtgbkgapjmmadoaaLay
namespace Go.Proofs.Ytgbkgapjmmadoaa
open Go.ChangeShapes Go.WideShapes Go.ChangeAt Go.RowKit

/-- Fields side by side, from the k-th on: the bits that they have, what these are, the error. -/
def layFrom (X : Nat → Fld) : Nat → Nat → BitVec 64 → BitVec 64 → BitVec 64 × BitVec 64 × Int
  | 0, _, h, b => (h, b, 0)
  | m + 1, k, h, b => if h &&& mskF (X k) = 0#64 then layFrom X m (k + 1) (h ||| mskF (X k)) (b ||| bitF (X k)) else (0#64, 0#64, 4)

def layAll (X : Nat → Fld) (l : Nat) : BitVec 64 × BitVec 64 × Int := layFrom X l 0 0#64 0#64

/-- A slice of fields in memory. -/
def FldsAt (W : World) (f : Option Addr) (l : Nat) (X : Nat → Fld) : Prop :=
  ∀ j, j < l → ∃ b o, f = some ⟨b, o, none⟩ ∧ FieldAt W b (o + j * 3) (X j).a (X j).n (X j).v

theorem FldsAt.below {W w : World} {f : Option Addr} {l : Nat} {X : Nat → Fld} (h : FldsAt W f l X) (hb : Below W.heap.size W w) : FldsAt w f l X := by
  intro j hj
  obtain ⟨b, o, hf, hx⟩ := h j hj
  exact ⟨b, o, hf, hx.below hb⟩

theorem flds_of {W : World} {f : Option Addr} {l : Nat} (h : FieldsAt W f l) : ∃ X, FldsAt W f l X := by
  rcases h with h | ⟨b, o, A, N, V, hf, _, _, h⟩
  · exact ⟨fun _ => default, fun j hj => absurd hj (by omega)⟩
  · exact ⟨fun j => ⟨A j, N j, V j⟩, fun j hj => ⟨b, o, hf, h j hj⟩⟩

theorem flds_pos {W : World} {f : Option Addr} {l : Nat} {X : Nat → Fld} (h : FldsAt W f l X) (hl : 0 < l) : ∃ b o, f = some ⟨b, o, none⟩ ∧ ∀ j, j < l → FieldAt W b (o + j * 3) (X j).a (X j).n (X j).v := by
  obtain ⟨b, o, rfl, _⟩ := h 0 hl
  refine ⟨b, o, rfl, fun j hj => ?_⟩
  obtain ⟨b', o', hf, hx⟩ := h j hj
  simp at hf
  obtain ⟨rfl, rfl⟩ := hf
  exact hx

theorem fmayBe_any (a n : Int) (v : BitVec 64) (w : World) (hn : n ≤ 9223372036854775807) :
    Calls Try.prog 28 #[.agg #[.int .i64 a, .int .i64 n, .int .u64 (u v)]] w fun e w' => e = .returned (.bool (okF ⟨a, n, v⟩)) ∧ Below w.heap.size w w' := by
  cases h : okB a n
  · exact fmayBe_no a n v w hn h
  · exact fmayBe_yes a n v w h

theorem okF_ok {x : Fld} (h : okF x = true) : 0 ≤ x.a ∧ 1 ≤ x.n ∧ x.a + x.n ≤ 64 := by
  unfold okF at h
  simp only [Bool.and_eq_true] at h
  exact okB_true h.1

theorem lay_empty (a : Option Addr) (cap : Nat) (w : World) :
    Calls Try.prog 26 #[.slice a 0 cap] w fun e w' => e = .returned (.tuple #[.int .u64 (u 0#64), .int .u64 (u 0#64), .int .i64 0]) ∧ w = w' := by
  go_enter Try.func26, Try.ntmps26
  go_wp2
  refine wp_loop_rounds 1 ?_
  rw [rounds_succ]
  go_wp2
  refine wp_loop_rounds 1 ?_
  rw [rounds_succ]
  go_wp2
  go_ret3
  exact ⟨rfl, rfl⟩

set_option maxRecDepth 100000 in
theorem lay_bad (b o len cap : Nat) (X : Nat → Fld) (w : World) (hl : len ≤ 9223372036854775807)
    (hc : ∀ j, j < len → FieldAt w b (o + j * 3) (X j).a (X j).n (X j).v) (hbad : ∃ j, j < len ∧ okF (X j) = false) :
    Calls Try.prog 26 #[.slice (some ⟨b, o, none⟩) len cap] w fun e w' => e = .returned (.tuple #[.int .u64 0, .int .u64 0, .int .i64 1]) ∧ Below w.heap.size w w' := by
  have HC := Lib.hid hc
  have HB := Lib.hid hbad
  clear hc hbad
  go_enter Try.func26, Try.ntmps26
  go_wp2
  go_loopw [12] (fun i wr => ∃ k : Nat, k ≤ len ∧ i = .int .i64 k ∧ Below w.heap.size w wr ∧ Hid (∀ j, j < k → okF (X j) = true)) (fun i _ => len - (intOf i).toNat)
  case atStart => exact ⟨0, Nat.zero_le _, rfl, Below.refl _ _, fun j hj => absurd hj (by omega)⟩
  case round =>
    obtain ⟨k, hk, rfl, hb, HJ⟩ := hrel
    by_cases hlt : k < len
    · have ha := (HC.out k hlt).below hb
      obtain ⟨h1, h2, h3, h4, h5, h6, h7, h8⟩ := ha
      cases hx : X k with
      | mk ak nk vk =>
      rw [hx] at h2 h3 h4 h5 h6 h7 h8
      simp only at h2 h3 h4 h5 h6 h7 h8
      have Hx := Lib.hid hx
      clear hx
      have hB := Lib.hid hb
      clear hb
      cases hg : okF ⟨ak, nk, vk⟩
      · go_wp2_with (first
          | (go_at_call 27; refine (fieldOf_any _ _ _ _).mono ?_; rintro e w1 ⟨rfl, rfl⟩)
          | (go_at_call 28; refine (fmayBe_any _ _ _ _ h5).mono ?_; rintro e w1 ⟨rfl, hb1⟩))
        go_ret3
        exact ⟨rfl, bel_trans (by repeat' (first | exact hB.out | refine bel_alloc ?_ _)) hb1⟩
      · go_wp2_with (first
          | (go_at_call 27; refine (fieldOf_any _ _ _ _).mono ?_; rintro e w1 ⟨rfl, rfl⟩)
          | (go_at_call 28; refine (fmayBe_any _ _ _ _ h5).mono ?_; rintro e w1 ⟨rfl, hb1⟩))
        go_roundw
        case rel =>
          refine ⟨k + 1, by omega, by go_num, bel_trans (by repeat' (first | exact hB.out | refine bel_alloc ?_ _)) hb1, fun j hj => ?_⟩
          by_cases hjk : j = k
          · rw [hjk, Hx.out]; exact hg
          · exact HJ.out j (by omega)
        case measure => simp [intOf]; omega
    · obtain ⟨j, hj, hf⟩ := HB.out
      have := HJ.out j (by omega)
      rw [hf] at this
      cases this

def tup3 (r : BitVec 64 × BitVec 64 × Int) : Value := .tuple #[.int .u64 (u r.1), .int .u64 (u r.2.1), .int .i64 r.2.2]

theorem layFrom_done (X : Nat → Fld) (k : Nat) (h b : BitVec 64) : layFrom X 0 k h b = (h, b, 0) := rfl
theorem layFrom_no {X : Nat → Fld} {m k : Nat} {h b : BitVec 64} (hm : 0 < m) (ht : h &&& mskF (X k) ≠ 0#64) : layFrom X m k h b = (0#64, 0#64, 4) := by
  obtain ⟨m, rfl⟩ : ∃ q, m = q + 1 := ⟨m - 1, by omega⟩
  unfold layFrom
  rw [if_neg ht]
theorem layFrom_yes {X : Nat → Fld} {m k : Nat} {h b : BitVec 64} (ht : h &&& mskF (X k) = 0#64) : layFrom X (m + 1) k h b = layFrom X m (k + 1) (h ||| mskF (X k)) (b ||| bitF (X k)) := by
  rw [layFrom, if_pos ht]

set_option maxRecDepth 100000 in
set_option maxHeartbeats 800000 in
theorem lay_ok (b o len cap : Nat) (X : Nat → Fld) (w : World) (hl : len ≤ 9223372036854775807)
    (hc : ∀ j, j < len → FieldAt w b (o + j * 3) (X j).a (X j).n (X j).v) (hok : ∀ j, j < len → okF (X j) = true) :
    Calls Try.prog 26 #[.slice (some ⟨b, o, none⟩) len cap] w fun e w' => e = .returned (tup3 (layAll X len)) ∧ Below w.heap.size w w' := by
  have HC := Lib.hid hc
  have HO := Lib.hid hok
  clear hc hok
  go_enter Try.func26, Try.ntmps26
  go_wp2
  go_loopw [2, 3, 12] (fun v2 v3 i wr => ∃ k : Nat, k ≤ len ∧ v2 = .int .u64 0 ∧ v3 = .int .u64 0 ∧ i = .int .i64 k ∧ Below w.heap.size w wr) (fun _ _ i _ => len - (intOf i).toNat)
  case atStart => exact ⟨0, Nat.zero_le _, rfl, rfl, rfl, Below.refl _ _⟩
  case round =>
    obtain ⟨k, hk, rfl, rfl, rfl, hb⟩ := hrel
    by_cases hlt : k < len
    · have ha := (HC.out k hlt).below hb
      obtain ⟨h1, h2, h3, h4, h5, h6, h7, h8⟩ := ha
      have hg := HO.out k hlt
      cases hx : X k with
      | mk ak nk vk =>
      rw [hx] at h2 h3 h4 h5 h6 h7 h8 hg
      simp only at h2 h3 h4 h5 h6 h7 h8
      have Hx := Lib.hid hx
      clear hx
      have hB := Lib.hid hb
      clear hb
      go_wp2_with (first
        | (go_at_call 27; refine (fieldOf_any _ _ _ _).mono ?_; rintro e w1 ⟨rfl, rfl⟩)
        | (go_at_call 28; refine (fmayBe_any _ _ _ _ h5).mono ?_; rintro e w1 ⟨rfl, hb1⟩))
      go_roundw
      case rel => exact ⟨k + 1, by omega, rfl, rfl, by go_num, bel_trans (by repeat' (first | exact hB.out | refine bel_alloc ?_ _)) hb1⟩
      case measure => simp [intOf]; omega
    · go_wp2
      obtain ⟨wo, rfl⟩ : ∃ wo : World, wo = wr := ⟨_, rfl⟩
      go_loopw [2, 3, 23] (fun v2 v3 i wr => ∃ (m : Nat) (h g : BitVec 64), m ≤ len ∧ v2 = .int .u64 (u h) ∧ v3 = .int .u64 (u g) ∧ i = .int .i64 m ∧ Below w.heap.size w wr ∧ Hid (layFrom X (len - m) m h g = layAll X len)) (fun _ _ i _ => len - (intOf i).toNat)
      case atStart => exact ⟨0, 0#64, 0#64, Nat.zero_le _, rfl, rfl, rfl, hb, rfl⟩
      case round =>
        obtain ⟨m, h, g, hm, rfl, rfl, rfl, hb2, HL⟩ := hrel
        by_cases hlm : m < len
        · have ha := (HC.out m hlm).below hb2
          obtain ⟨h1, h2, h3, h4, h5, h6, h7, h8⟩ := ha
          have hg := HO.out m hlm
          cases hx : X m with
          | mk ak nk vk =>
          rw [hx] at h2 h3 h4 h5 h6 h7 h8 hg
          simp only at h2 h3 h4 h5 h6 h7 h8
          obtain ⟨g1, g2, g3⟩ := okF_ok hg
          simp only at g1 g2 g3
          have Hx := Lib.hid hx
          clear hx hg
          have hB := Lib.hid hb2
          clear hb2
          by_cases ht : h &&& mskF ⟨ak, nk, vk⟩ = 0#64
          · have hq : (u (h &&& (msk nk <<< ak.toNat)) != 0) = false := by
              rw [show (0 : Int) = u 0#64 from by decide, u_bne]
              exact decide_eq_false (fun hh => hh ht)
            have HT := Lib.hid ht
            clear ht
            go_wp2_with (first
              | (go_at_call 27; refine (fieldOf_any _ _ _ _).mono ?_; rintro e w1 ⟨rfl, rfl⟩)
              | (go_at_call 29; refine (smask_any _ _ _ g1 g2 g3).mono ?_; rintro e w1 ⟨rfl, rfl⟩)
              | (go_at_call 30; refine (fbits_any _ _ _ _ g1 (by omega)).mono ?_; rintro e w1 ⟨rfl, rfl⟩))
            go_roundw
            case rel =>
              refine ⟨m + 1, _, _, by omega, rfl, rfl, by go_num, by repeat' (first | exact hB.out | refine bel_alloc ?_ _ | refine Below.drew ?_), ?_⟩
              have hl := HL.out
              rw [show len - m = (len - (m + 1)) + 1 from by omega, layFrom_yes (by rw [Hx.out]; exact HT.out), Hx.out] at hl
              exact hl
            case measure => simp [intOf]; omega
          · have hq : (u (h &&& (msk nk <<< ak.toNat)) != 0) = true := by
              rw [show (0 : Int) = u 0#64 from by decide, u_bne]
              exact decide_eq_true ht
            have HT := Lib.hid ht
            clear ht
            go_wp2_with (first
              | (go_at_call 27; refine (fieldOf_any _ _ _ _).mono ?_; rintro e w1 ⟨rfl, rfl⟩)
              | (go_at_call 29; refine (smask_any _ _ _ g1 g2 g3).mono ?_; rintro e w1 ⟨rfl, rfl⟩)
              | (go_at_call 30; refine (fbits_any _ _ _ _ g1 (by omega)).mono ?_; rintro e w1 ⟨rfl, rfl⟩))
            go_ret3
            have hl := HL.out
            rw [layFrom_no (by omega) (by rw [Hx.out]; exact HT.out)] at hl
            rw [← hl]
            exact ⟨rfl, by repeat' (first | exact hB.out | refine bel_alloc ?_ _ | refine Below.drew ?_)⟩
        · have hB := Lib.hid hb2
          clear hb2
          go_wp2
          go_ret3
          have hl := HL.out
          rw [show len - m = 0 from by omega, layFrom_done] at hl
          rw [← hl]
          exact ⟨rfl, hB.out⟩
end Go.Proofs.Ytgbkgapjmmadoaa
