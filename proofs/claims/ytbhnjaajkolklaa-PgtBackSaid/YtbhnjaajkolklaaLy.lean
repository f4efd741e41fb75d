/- Contracts of word.lay and word.Join. -/
import Derived.Test.YtbhnjaajkolklaaWd
set_option linter.all false
namespace Go.Proofs.Ytbhnjaajkolklaa
open Go.ChangeShapes Go.WideShapes Go.ChangeAt Go.RowKit Go.Deep

/-- A field. -/
structure Fld where
  a : Int
  n : Int
  v : BitVec 64
deriving Inhabited

def okF (x : Fld) : Bool := okB x.a x.n && decide (u x.v ≤ u (msk x.n))

def mskF (x : Fld) : BitVec 64 := msk x.n <<< x.a.toNat

def bitF (x : Fld) : BitVec 64 := x.v <<< x.a.toNat

theorem msk_nat (n : Int) (h0 : 0 ≤ n) (h1 : n ≤ 64) : (msk n).toNat = 2 ^ n.toNat - 1 := by
  have : ∀ k : Fin 65, (BitVec.allOnes 64 >>> (64 - (k : Nat))).toNat = 2 ^ (k : Nat) - 1 := by decide +kernel
  have := this ⟨n.toNat, by omega⟩
  simp only at this
  unfold msk
  rw [show (64 - n).toNat = 64 - n.toNat from by omega]
  exact this

theorem fieldOf_any (a n : Int) (v : BitVec 64) (w : World) :
    Calls Try.prog 91 #[.agg #[.int .i64 a, .int .i64 n, .int .u64 (u v)]] w fun e w' => e = .returned (.agg #[.int .i64 a, .int .i64 n, .int .u64 (u v)]) ∧
      w' = (w.alloc (.cells #[.int .i64 a, .int .i64 n, .int .u64 (u v)] 134)).alloc (.cells #[.int .i64 a, .int .i64 n, .int .u64 (u v)] 139) := by
  go_enter Try.func91, Try.ntmps91
  go_wp2
  go_returns
  exact ⟨rfl, rfl⟩

theorem smask_any (a n : Int) (w : World) (h0 : 0 ≤ a) (h1 : 1 ≤ n) (h2 : a + n ≤ 64) :
    Calls Try.prog 93 #[.agg #[.int .i64 a, .int .i64 n]] w fun e w' => e = .returned (.int .u64 (u (msk n <<< a.toNat))) ∧
      w' = ((w.alloc (.cells #[.int .i64 a, .int .i64 n] 124)).alloc (.cells #[.int .i64 a, .int .i64 n] 124)).drew := by
  go_enter Try.func93, Try.ntmps93
  go_wp2
  go_region_held3 (fun w' => w'.cell? ⟨w.heap.size, 0, none⟩ = some (.int .i64 a) ∧ w'.cell? ⟨w.heap.size, 1, none⟩ = some (.int .i64 n)) (go_keep)
    (first | (go_at_call 73; refine (ones_any _ _ _ h1 (by omega)).mono ?_; rintro e w' ⟨rfl, rfl⟩))
  go_wp2
  go_ret
  exact ⟨rfl, rfl⟩

theorem fbits_any (a n : Int) (v : BitVec 64) (w : World) (h0 : 0 ≤ a) (h2 : a ≤ 63) :
    Calls Try.prog 94 #[.agg #[.int .i64 a, .int .i64 n, .int .u64 (u v)]] w fun e w' => e = .returned (.int .u64 (u (v <<< a.toNat))) ∧
      w' = w.alloc (.cells #[.int .i64 a, .int .i64 n, .int .u64 (u v)] 139) := by
  go_enter Try.func94, Try.ntmps94
  go_wp2
  go_ret
  exact ⟨rfl, rfl⟩

theorem fmayBe_yes (a n : Int) (v : BitVec 64) (w : World) (h : okB a n = true) :
    Calls Try.prog 92 #[.agg #[.int .i64 a, .int .i64 n, .int .u64 (u v)]] w fun e w' => e = .returned (.bool (okF ⟨a, n, v⟩)) ∧ Below w.heap.size w w' := by
  obtain ⟨h0, h1, h2⟩ := okB_true h
  go_enter Try.func92, Try.ntmps92
  go_wp2
  go_region_held3 (fun w' => w'.cell? ⟨w.heap.size, 0, none⟩ = some (.int .i64 a) ∧ w'.cell? ⟨w.heap.size, 1, none⟩ = some (.int .i64 n) ∧ w'.cell? ⟨w.heap.size, 2, none⟩ = some (.int .u64 (u v))) (go_keep)
    (first | (go_at_call 73; refine (ones_any _ _ _ h1 (by omega)).mono ?_; rintro e w' ⟨rfl, rfl⟩) | (go_at_call 72; refine (mayBe_any _ _ _ (by omega)).mono ?_; rintro e w' ⟨rfl, rfl⟩))
  go_wp2
  go_ret
  refine ⟨ret_bool ?_, by go_grown⟩
  unfold okF
  rw [h]; rfl

theorem fmayBe_no (a n : Int) (v : BitVec 64) (w : World) (hn : n ≤ 9223372036854775807) (h : okB a n = false) :
    Calls Try.prog 92 #[.agg #[.int .i64 a, .int .i64 n, .int .u64 (u v)]] w fun e w' => e = .returned (.bool (okF ⟨a, n, v⟩)) ∧ Below w.heap.size w w' := by
  go_enter Try.func92, Try.ntmps92
  go_wp2
  first | (go_region_with (first
      | (go_at_call 72; refine (mayBe_any _ _ _ hn).mono ?_; rintro e w' ⟨rfl, rfl⟩))) | skip
  all_goals
    go_wp2
    go_ret
    refine ⟨ret_bool ?_, by go_grown⟩
    unfold okF
    rw [h]; rfl

/-- Fields side by side, from the k-th on: the bits that they have, what these are, the error. -/
def layFrom (X : Nat → Fld) : Nat → Nat → BitVec 64 → BitVec 64 → BitVec 64 × BitVec 64 × Int
  | 0, _, h, b => (h, b, 0)
  | m + 1, k, h, b => if h &&& mskF (X k) = 0#64 then layFrom X m (k + 1) (h ||| mskF (X k)) (b ||| bitF (X k)) else (0#64, 0#64, 4)

def layAll (X : Nat → Fld) (l : Nat) : BitVec 64 × BitVec 64 × Int := layFrom X l 0 0#64 0#64

/-- A slice of fields in memory. -/
def FldsAt (W : World) (f : Option Addr) (l : Nat) (X : Nat → Fld) : Prop :=
  ∀ j, j < l → ∃ b o, f = some ⟨b, o, none⟩ ∧ FieldAt W b (o + j * 3) (X j).a (X j).n (X j).v

theorem FldsAt.below {W w : World} {f : Option Addr} {l : Nat} {X : Nat → Fld} (h : FldsAt W f l X) (hb : Below W.heap.size W w) : FldsAt w f l X := by
  intro j hj
  obtain ⟨b, o, hf, hx⟩ := h j hj
  exact ⟨b, o, hf, hx.below hb⟩

theorem flds_pos {W : World} {f : Option Addr} {l : Nat} {X : Nat → Fld} (h : FldsAt W f l X) (hl : 0 < l) : ∃ b o, f = some ⟨b, o, none⟩ ∧ ∀ j, j < l → FieldAt W b (o + j * 3) (X j).a (X j).n (X j).v := by
  obtain ⟨b, o, rfl, _⟩ := h 0 hl
  refine ⟨b, o, rfl, fun j hj => ?_⟩
  obtain ⟨b', o', hf, hx⟩ := h j hj
  simp at hf
  obtain ⟨rfl, rfl⟩ := hf
  exact hx

theorem fmayBe_any (a n : Int) (v : BitVec 64) (w : World) (hn : n ≤ 9223372036854775807) :
    Calls Try.prog 92 #[.agg #[.int .i64 a, .int .i64 n, .int .u64 (u v)]] w fun e w' => e = .returned (.bool (okF ⟨a, n, v⟩)) ∧ Below w.heap.size w w' := by
  cases h : okB a n
  · exact fmayBe_no a n v w hn h
  · exact fmayBe_yes a n v w h

theorem okF_ok {x : Fld} (h : okF x = true) : 0 ≤ x.a ∧ 1 ≤ x.n ∧ x.a + x.n ≤ 64 := by
  unfold okF at h
  simp only [Bool.and_eq_true] at h
  exact okB_true h.1

theorem lay_empty (a : Option Addr) (cap : Nat) (w : World) :
    Calls Try.prog 86 #[.slice a 0 cap] w fun e w' => e = .returned (.tuple #[.int .u64 (u 0#64), .int .u64 (u 0#64), .int .i64 0]) ∧ w = w' := by
  go_enter Try.func86, Try.ntmps86
  go_wp2
  refine wp_loop_rounds 1 ?_
  rw [rounds_succ]
  go_wp2
  refine wp_loop_rounds 1 ?_
  rw [rounds_succ]
  go_wp2
  go_ret3
  exact ⟨rfl, rfl⟩

set_option maxRecDepth 100000 in
theorem lay_bad (b o len cap : Nat) (X : Nat → Fld) (w : World) (hl : len ≤ 9223372036854775807)
    (hc : ∀ j, j < len → FieldAt w b (o + j * 3) (X j).a (X j).n (X j).v) (hbad : ∃ j, j < len ∧ okF (X j) = false) :
    Calls Try.prog 86 #[.slice (some ⟨b, o, none⟩) len cap] w fun e w' => e = .returned (.tuple #[.int .u64 0, .int .u64 0, .int .i64 1]) ∧ Below w.heap.size w w' := by
  have HC := Lib.hid hc
  have HB := Lib.hid hbad
  clear hc hbad
  go_enter Try.func86, Try.ntmps86
  go_wp2
  go_loopw [12] (fun i wr => ∃ k : Nat, k ≤ len ∧ i = .int .i64 k ∧ Below w.heap.size w wr ∧ Hid (∀ j, j < k → okF (X j) = true)) (fun i _ => len - (intOf i).toNat)
  case atStart => exact ⟨0, Nat.zero_le _, rfl, Below.refl _ _, fun j hj => absurd hj (by omega)⟩
  case round =>
    obtain ⟨k, hk, rfl, hb, HJ⟩ := hrel
    by_cases hlt : k < len
    · have ha := (HC.out k hlt).below hb
      obtain ⟨h1, h2, h3, h4, h5, h6, h7, h8⟩ := ha
      cases hx : X k with
      | mk ak nk vk =>
      rw [hx] at h2 h3 h4 h5 h6 h7 h8
      simp only at h2 h3 h4 h5 h6 h7 h8
      have Hx := Lib.hid hx
      clear hx
      have hB := Lib.hid hb
      clear hb
      cases hg : okF ⟨ak, nk, vk⟩
      · go_wp2_with (first
          | (go_at_call 91; refine (fieldOf_any _ _ _ _).mono ?_; rintro e w1 ⟨rfl, rfl⟩)
          | (go_at_call 92; refine (fmayBe_any _ _ _ _ h5).mono ?_; rintro e w1 ⟨rfl, hb1⟩))
        go_ret3
        exact ⟨rfl, bel_trans (by repeat' (first | exact hB.out | refine bel_alloc ?_ _)) hb1⟩
      · go_wp2_with (first
          | (go_at_call 91; refine (fieldOf_any _ _ _ _).mono ?_; rintro e w1 ⟨rfl, rfl⟩)
          | (go_at_call 92; refine (fmayBe_any _ _ _ _ h5).mono ?_; rintro e w1 ⟨rfl, hb1⟩))
        go_roundw
        case rel =>
          refine ⟨k + 1, by omega, by go_num, bel_trans (by repeat' (first | exact hB.out | refine bel_alloc ?_ _)) hb1, fun j hj => ?_⟩
          by_cases hjk : j = k
          · rw [hjk, Hx.out]; exact hg
          · exact HJ.out j (by omega)
        case measure => simp [intOf]; omega
    · obtain ⟨j, hj, hf⟩ := HB.out
      have := HJ.out j (by omega)
      rw [hf] at this
      cases this

def tup3 (r : BitVec 64 × BitVec 64 × Int) : Value := .tuple #[.int .u64 (u r.1), .int .u64 (u r.2.1), .int .i64 r.2.2]

theorem layFrom_done (X : Nat → Fld) (k : Nat) (h b : BitVec 64) : layFrom X 0 k h b = (h, b, 0) := rfl

theorem layFrom_no {X : Nat → Fld} {m k : Nat} {h b : BitVec 64} (hm : 0 < m) (ht : h &&& mskF (X k) ≠ 0#64) : layFrom X m k h b = (0#64, 0#64, 4) := by
  obtain ⟨m, rfl⟩ : ∃ q, m = q + 1 := ⟨m - 1, by omega⟩
  unfold layFrom
  rw [if_neg ht]

theorem layFrom_yes {X : Nat → Fld} {m k : Nat} {h b : BitVec 64} (ht : h &&& mskF (X k) = 0#64) : layFrom X (m + 1) k h b = layFrom X m (k + 1) (h ||| mskF (X k)) (b ||| bitF (X k)) := by
  rw [layFrom, if_pos ht]

set_option maxRecDepth 100000 in
set_option maxHeartbeats 800000 in
theorem lay_ok (b o len cap : Nat) (X : Nat → Fld) (w : World) (hl : len ≤ 9223372036854775807)
    (hc : ∀ j, j < len → FieldAt w b (o + j * 3) (X j).a (X j).n (X j).v) (hok : ∀ j, j < len → okF (X j) = true) :
    Calls Try.prog 86 #[.slice (some ⟨b, o, none⟩) len cap] w fun e w' => e = .returned (tup3 (layAll X len)) ∧ Below w.heap.size w w' := by
  have HC := Lib.hid hc
  have HO := Lib.hid hok
  clear hc hok
  go_enter Try.func86, Try.ntmps86
  go_wp2
  go_loopw [2, 3, 12] (fun v2 v3 i wr => ∃ k : Nat, k ≤ len ∧ v2 = .int .u64 0 ∧ v3 = .int .u64 0 ∧ i = .int .i64 k ∧ Below w.heap.size w wr) (fun _ _ i _ => len - (intOf i).toNat)
  case atStart => exact ⟨0, Nat.zero_le _, rfl, rfl, rfl, Below.refl _ _⟩
  case round =>
    obtain ⟨k, hk, rfl, rfl, rfl, hb⟩ := hrel
    by_cases hlt : k < len
    · have ha := (HC.out k hlt).below hb
      obtain ⟨h1, h2, h3, h4, h5, h6, h7, h8⟩ := ha
      have hg := HO.out k hlt
      cases hx : X k with
      | mk ak nk vk =>
      rw [hx] at h2 h3 h4 h5 h6 h7 h8 hg
      simp only at h2 h3 h4 h5 h6 h7 h8
      have Hx := Lib.hid hx
      clear hx
      have hB := Lib.hid hb
      clear hb
      go_wp2_with (first
        | (go_at_call 91; refine (fieldOf_any _ _ _ _).mono ?_; rintro e w1 ⟨rfl, rfl⟩)
        | (go_at_call 92; refine (fmayBe_any _ _ _ _ h5).mono ?_; rintro e w1 ⟨rfl, hb1⟩))
      go_roundw
      case rel => exact ⟨k + 1, by omega, rfl, rfl, by go_num, bel_trans (by repeat' (first | exact hB.out | refine bel_alloc ?_ _)) hb1⟩
      case measure => simp [intOf]; omega
    · go_wp2
      obtain ⟨wo, rfl⟩ : ∃ wo : World, wo = wr := ⟨_, rfl⟩
      go_loopw [2, 3, 23] (fun v2 v3 i wr => ∃ (m : Nat) (h g : BitVec 64), m ≤ len ∧ v2 = .int .u64 (u h) ∧ v3 = .int .u64 (u g) ∧ i = .int .i64 m ∧ Below w.heap.size w wr ∧ Hid (layFrom X (len - m) m h g = layAll X len)) (fun _ _ i _ => len - (intOf i).toNat)
      case atStart => exact ⟨0, 0#64, 0#64, Nat.zero_le _, rfl, rfl, rfl, hb, rfl⟩
      case round =>
        obtain ⟨m, h, g, hm, rfl, rfl, rfl, hb2, HL⟩ := hrel
        by_cases hlm : m < len
        · have ha := (HC.out m hlm).below hb2
          obtain ⟨h1, h2, h3, h4, h5, h6, h7, h8⟩ := ha
          have hg := HO.out m hlm
          cases hx : X m with
          | mk ak nk vk =>
          rw [hx] at h2 h3 h4 h5 h6 h7 h8 hg
          simp only at h2 h3 h4 h5 h6 h7 h8
          obtain ⟨g1, g2, g3⟩ := okF_ok hg
          simp only at g1 g2 g3
          have Hx := Lib.hid hx
          clear hx hg
          have hB := Lib.hid hb2
          clear hb2
          by_cases ht : h &&& mskF ⟨ak, nk, vk⟩ = 0#64
          · have hq : (u (h &&& (msk nk <<< ak.toNat)) != 0) = false := by
              rw [show (0 : Int) = u 0#64 from by decide, u_bne]
              exact decide_eq_false (fun hh => hh ht)
            have HT := Lib.hid ht
            clear ht
            go_wp2_with (first
              | (go_at_call 91; refine (fieldOf_any _ _ _ _).mono ?_; rintro e w1 ⟨rfl, rfl⟩)
              | (go_at_call 93; refine (smask_any _ _ _ g1 g2 g3).mono ?_; rintro e w1 ⟨rfl, rfl⟩)
              | (go_at_call 94; refine (fbits_any _ _ _ _ g1 (by omega)).mono ?_; rintro e w1 ⟨rfl, rfl⟩))
            go_roundw
            case rel =>
              refine ⟨m + 1, _, _, by omega, rfl, rfl, by go_num, by repeat' (first | exact hB.out | refine bel_alloc ?_ _ | refine Below.drew ?_), ?_⟩
              have hl := HL.out
              rw [show len - m = (len - (m + 1)) + 1 from by omega, layFrom_yes (by rw [Hx.out]; exact HT.out), Hx.out] at hl
              exact hl
            case measure => simp [intOf]; omega
          · have hq : (u (h &&& (msk nk <<< ak.toNat)) != 0) = true := by
              rw [show (0 : Int) = u 0#64 from by decide, u_bne]
              exact decide_eq_true ht
            have HT := Lib.hid ht
            clear ht
            go_wp2_with (first
              | (go_at_call 91; refine (fieldOf_any _ _ _ _).mono ?_; rintro e w1 ⟨rfl, rfl⟩)
              | (go_at_call 93; refine (smask_any _ _ _ g1 g2 g3).mono ?_; rintro e w1 ⟨rfl, rfl⟩)
              | (go_at_call 94; refine (fbits_any _ _ _ _ g1 (by omega)).mono ?_; rintro e w1 ⟨rfl, rfl⟩))
            go_ret3
            have hl := HL.out
            rw [layFrom_no (by omega) (by rw [Hx.out]; exact HT.out)] at hl
            rw [← hl]
            exact ⟨rfl, by repeat' (first | exact hB.out | refine bel_alloc ?_ _ | refine Below.drew ?_)⟩
        · have hB := Lib.hid hb2
          clear hb2
          go_wp2
          go_ret3
          have hl := HL.out
          rw [show len - m = 0 from by omega, layFrom_done] at hl
          rw [← hl]
          exact ⟨rfl, hB.out⟩

def layR (X : Nat → Fld) (l : Nat) : BitVec 64 × BitVec 64 × Int := if ∀ j, j < l → okF (X j) = true then layAll X l else (0#64, 0#64, 1)

theorem lay_any (f : Option Addr) (l cap : Nat) (X : Nat → Fld) (w : World) (hl : l ≤ 9223372036854775807) (h : FldsAt w f l X) :
    Calls Try.prog 86 #[.slice f l cap] w fun e w' => e = .returned (tup3 (layR X l)) ∧ Below w.heap.size w w' := by
  by_cases h0 : l = 0
  · subst h0
    refine (lay_empty f cap w).mono fun e w' hh => ?_
    obtain ⟨rfl, rfl⟩ := hh
    exact ⟨rfl, Below.refl _ _⟩
  · obtain ⟨b, o, rfl, hc⟩ := flds_pos h (by omega)
    by_cases hok : ∀ j, j < l → okF (X j) = true
    · unfold layR
      rw [if_pos hok]
      exact lay_ok b o l cap X w hl hc hok
    · unfold layR
      rw [if_neg hok]
      refine lay_bad b o l cap X w hl hc ?_
      simp only [Classical.not_forall] at hok
      obtain ⟨j, hj, hx⟩ := hok
      exact ⟨j, hj, by simpa using hx⟩

theorem join_any (f : Option Addr) (l cap : Nat) (X : Nat → Fld) (w : World) (hl : l ≤ 9223372036854775807) (h : FldsAt w f l X) :
    Calls Try.prog 74 #[.slice f l cap] w fun e w' => e = .returned (.tuple #[.int .u64 (u (layR X l).2.1), .int .i64 (layR X l).2.2]) ∧ Below w.heap.size w w' := by
  have HL := Lib.hid (lay_any f l cap X w hl h)
  generalize layR X l = r at HL ⊢
  obtain ⟨rh, rb, re⟩ := r
  unfold tup3 at HL
  simp only at HL ⊢
  clear h
  go_enter Try.func74, Try.ntmps74
  go_wp2_with fail
  refine HL.out.mono ?_
  rintro e w' ⟨rfl, hb⟩
  go_wp2
  go_ret2
  exact ⟨rfl, hb⟩
end Go.Proofs.Ytbhnjaajkolklaa
