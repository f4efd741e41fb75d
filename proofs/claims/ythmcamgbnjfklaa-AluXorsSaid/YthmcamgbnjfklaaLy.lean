/- Contracts of word.lay and word.Join. -/
import Derived.Test.YthmcamgbnjfklaaWd
set_option linter.all false
namespace Go.Proofs.Ythmcamgbnjfklaa
open Go.ChangeShapes Go.WideShapes Go.ChangeAt Go.RowKit Go.Deep

/-- A field. -/
structure Fld where
  a : Int
  n : Int
  v : BitVec 64
deriving Inhabited

def okF (x : Fld) : Bool := okB x.a x.n && decide (u x.v ≤ u (msk x.n))

def mskF (x : Fld) : BitVec 64 := msk x.n <<< x.a.toNat

def bitF (x : Fld) : BitVec 64 := x.v <<< x.a.toNat

theorem msk_nat (n : Int) (h0 : 0 ≤ n) (h1 : n ≤ 64) : (msk n).toNat = 2 ^ n.toNat - 1 := by
  have : ∀ k : Fin 65, (BitVec.allOnes 64 >>> (64 - (k : Nat))).toNat = 2 ^ (k : Nat) - 1 := by decide +kernel
  have := this ⟨n.toNat, by omega⟩
  simp only at this
  unfold msk
  rw [show (64 - n).toNat = 64 - n.toNat from by omega]
  exact this

/-- A number that has room. -/
theorem room_iff (v : BitVec 64) (n : Int) (h0 : 0 ≤ n) (h1 : n ≤ 64) : (v &&& ~~~ (msk n) = 0#64) ↔ u v ≤ u (msk n) := by
  have hp : 0 < 2 ^ n.toNat := Nat.pow_pos (by omega)
  have e : (u v ≤ u (msk n)) ↔ v.toNat < 2 ^ n.toNat := by
    unfold u
    rw [msk_nat n h0 h1]
    omega
  rw [e]
  constructor
  · intro h
    apply Nat.lt_pow_two_of_testBit
    intro i hi
    by_cases hi64 : i < 64
    · have hb := congrArg (fun x : BitVec 64 => x.getLsbD i) h
      simp only [BitVec.getLsbD_and, BitVec.getLsbD_not, BitVec.getLsbD_zero] at hb
      rw [msk_bit n i h0 h1, decide_eq_false (show ¬ i < n.toNat from by omega), decide_eq_true hi64] at hb
      have hb' : v.getLsbD i = false := by simpa using hb
      exact hb'
    · exact BitVec.getLsbD_of_ge v i (by omega)
  · intro h
    apply BitVec.eq_of_getLsbD_eq
    intro i hi
    rw [BitVec.getLsbD_and, BitVec.getLsbD_not, msk_bit n i h0 h1, BitVec.getLsbD_zero]
    by_cases hk : i < n.toNat
    · simp [hk]
    · have : v.getLsbD i = false := Nat.testBit_lt_two_pow (Nat.lt_of_lt_of_le h (Nat.pow_le_pow_right (by omega) (by omega)))
      rw [this]; rfl

theorem room_beq (v : BitVec 64) (n : Int) (h0 : 0 ≤ n) (h1 : n ≤ 64) : (u (v &&& ~~~ (msk n)) == 0) = decide (u v ≤ u (msk n)) := by
  rw [show (0 : Int) = u 0#64 from by decide, u_beq]
  exact decide_eq_decide.2 (room_iff v n h0 h1)

/-- Fields side by side, from the k-th on: the bits that they have, what these are, the error. -/
def layFrom (X : Nat → Fld) : Nat → Nat → BitVec 64 → BitVec 64 → BitVec 64 × BitVec 64 × Int
  | 0, _, h, b => (h, b, 0)
  | m + 1, k, h, b => if h &&& mskF (X k) = 0#64 then layFrom X m (k + 1) (h ||| mskF (X k)) (b ||| bitF (X k)) else (0#64, 0#64, 4)

def layAll (X : Nat → Fld) (l : Nat) : BitVec 64 × BitVec 64 × Int := layFrom X l 0 0#64 0#64

/-- A slice of fields in memory. -/
def FldsAt (W : World) (f : Option Addr) (l : Nat) (X : Nat → Fld) : Prop :=
  ∀ j, j < l → ∃ b o, f = some ⟨b, o, none⟩ ∧ FieldAt W b (o + j * 3) (X j).a (X j).n (X j).v

theorem FldsAt.below {W w : World} {f : Option Addr} {l : Nat} {X : Nat → Fld} (h : FldsAt W f l X) (hb : Below W.heap.size W w) : FldsAt w f l X := by
  intro j hj
  obtain ⟨b, o, hf, hx⟩ := h j hj
  exact ⟨b, o, hf, hx.below hb⟩

theorem flds_pos {W : World} {f : Option Addr} {l : Nat} {X : Nat → Fld} (h : FldsAt W f l X) (hl : 0 < l) : ∃ b o, f = some ⟨b, o, none⟩ ∧ ∀ j, j < l → FieldAt W b (o + j * 3) (X j).a (X j).n (X j).v := by
  obtain ⟨b, o, rfl, _⟩ := h 0 hl
  refine ⟨b, o, rfl, fun j hj => ?_⟩
  obtain ⟨b', o', hf, hx⟩ := h j hj
  simp at hf
  obtain ⟨rfl, rfl⟩ := hf
  exact hx

theorem okF_ok {x : Fld} (h : okF x = true) : 0 ≤ x.a ∧ 1 ≤ x.n ∧ x.a + x.n ≤ 64 := by
  unfold okF at h
  simp only [Bool.and_eq_true] at h
  exact okB_true h.1

def tup3 (r : BitVec 64 × BitVec 64 × Int) : Value := .tuple #[.int .u64 (u r.1), .int .u64 (u r.2.1), .int .i64 r.2.2]

theorem layFrom_done (X : Nat → Fld) (k : Nat) (h b : BitVec 64) : layFrom X 0 k h b = (h, b, 0) := rfl

theorem layFrom_no {X : Nat → Fld} {m k : Nat} {h b : BitVec 64} (hm : 0 < m) (ht : h &&& mskF (X k) ≠ 0#64) : layFrom X m k h b = (0#64, 0#64, 4) := by
  obtain ⟨m, rfl⟩ : ∃ q, m = q + 1 := ⟨m - 1, by omega⟩
  unfold layFrom
  rw [if_neg ht]

theorem layFrom_yes {X : Nat → Fld} {m k : Nat} {h b : BitVec 64} (ht : h &&& mskF (X k) = 0#64) : layFrom X (m + 1) k h b = layFrom X m (k + 1) (h ||| mskF (X k)) (b ||| bitF (X k)) := by
  rw [layFrom, if_pos ht]

def layR (X : Nat → Fld) (l : Nat) : BitVec 64 × BitVec 64 × Int := if ∀ j, j < l → okF (X j) = true then layAll X l else (0#64, 0#64, 1)

theorem layR_one (x : Fld) : layR (fun _ => x) 1 = if okF x = true then (mskF x, bitF x, 0) else (0#64, 0#64, 1) := by
  unfold layR layAll
  by_cases h : okF x = true
  · rw [if_pos (fun _ _ => h), if_pos h]
    simp [layFrom]
  · rw [if_neg (fun hh => h (hh 0 (by omega))), if_neg h]

end Go.Proofs.Ythmcamgbnjfklaa
