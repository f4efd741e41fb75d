/- Instructions, plainly: which may be, their words, what a word is. -/
import Derived.Test.YthmcamgbnjfklaaOwnL
set_option linter.all false
namespace Go.Proofs.Ythmcamgbnjfklaa
open Go.ChangeShapes Go.WideShapes Go.ChangeAt Go.RowKit Go.Deep

/-- An instruction. -/
structure Ins where
  op : Int
  d : Int
  n : Int
  m : Int
  i : Int
deriving DecidableEq
def ins0 : Ins := ⟨0, 0, 0, 0, 0⟩
def insV (x : Ins) : Value := .agg #[.int .i64 x.op, .int .i64 x.d, .int .i64 x.n, .int .i64 x.m, .int .i64 x.i]
def inB (a b n : Int) : Bool := decide (a ≤ n ∧ n ≤ b)
theorem inB_iff {a b n : Int} : inB a b n = true ↔ a ≤ n ∧ n ≤ b := by simp [inB]
def suitB (x : Ins) : Bool := if x.op = 7 ∨ x.op = 8 then inB 0 3 x.m else if x.op = 11 ∨ x.op = 12 then inB 0 5 x.i else if x.op = 13 then inB 3 5 x.i else true
def mayI (x : Ins) : Bool := inB 1 16 x.op && (inB 0 7 x.d && (inB 0 7 x.n && (inB 0 7 x.m && (inB (-2048) 2047 x.i && suitB x))))
def wordI (x : Ins) : Int := x.op * 134217728 + x.d * 16777216 + x.n * 2097152 + x.m * 262144 + x.i % 4096
def sg12 (n : Int) : Int := if n < 2048 then n else n - 4096
def readI (v : Int) : Ins := ⟨v / 134217728, v / 16777216 % 8, v / 2097152 % 8, v / 262144 % 8, sg12 (v % 4096)⟩
def isI (v : Int) : Bool := mayI (readI v) && decide (wordI (readI v) = v)
def ofI (v : Int) : Ins := if isI v = true then readI v else ins0
theorem mayI_iff {x : Ins} : mayI x = true ↔ (1 ≤ x.op ∧ x.op ≤ 16) ∧ (0 ≤ x.d ∧ x.d ≤ 7) ∧ (0 ≤ x.n ∧ x.n ≤ 7) ∧ (0 ≤ x.m ∧ x.m ≤ 7) ∧ (-2048 ≤ x.i ∧ x.i ≤ 2047) ∧ suitB x = true := by
  simp only [mayI, Bool.and_eq_true, inB_iff]
theorem wordI_bd {x : Ins} (h : mayI x = true) : 0 ≤ wordI x ∧ wordI x ≤ 4294967295 := by
  obtain ⟨⟨a0, a1⟩, ⟨b0, b1⟩, ⟨c0, c1⟩, ⟨d0, d1⟩, ⟨e0, e1⟩, _⟩ := mayI_iff.1 h
  unfold wordI
  omega
theorem sg12_mod {i : Int} (h0 : -2048 ≤ i) (h1 : i ≤ 2047) : sg12 (i % 4096) = i := by
  unfold sg12
  split <;> omega
theorem sg12_bd {n : Int} (h0 : 0 ≤ n) (h1 : n < 4096) : -2048 ≤ sg12 n ∧ sg12 n ≤ 2047 := by
  unfold sg12
  split <;> omega
/-- What an instruction's word is read as. -/
theorem read_wordI (x : Ins) (h : mayI x = true) : readI (wordI x) = x := by
  obtain ⟨⟨a0, a1⟩, ⟨b0, b1⟩, ⟨c0, c1⟩, ⟨d0, d1⟩, ⟨e0, e1⟩, _⟩ := mayI_iff.1 h
  obtain ⟨op, d, n, m, i⟩ := x
  simp only at a0 a1 b0 b1 c0 c1 d0 d1 e0 e1
  unfold readI wordI
  simp only
  have g1 : (op * 134217728 + d * 16777216 + n * 2097152 + m * 262144 + i % 4096) / 134217728 = op := by omega
  have g2 : (op * 134217728 + d * 16777216 + n * 2097152 + m * 262144 + i % 4096) / 16777216 % 8 = d := by omega
  have g3 : (op * 134217728 + d * 16777216 + n * 2097152 + m * 262144 + i % 4096) / 2097152 % 8 = n := by omega
  have g4 : (op * 134217728 + d * 16777216 + n * 2097152 + m * 262144 + i % 4096) / 262144 % 8 = m := by omega
  have g5 : (op * 134217728 + d * 16777216 + n * 2097152 + m * 262144 + i % 4096) % 4096 = i % 4096 := by omega
  rw [g1, g2, g3, g4, g5, sg12_mod e0 e1]
theorem isI_word (x : Ins) (h : mayI x = true) : isI (wordI x) = true := by
  unfold isI; rw [read_wordI x h, h]; simp
theorem ofI_word (x : Ins) (h : mayI x = true) : ofI (wordI x) = x := by
  unfold ofI; rw [if_pos (isI_word x h), read_wordI x h]
theorem ofI_may {v : Int} (h : isI v = true) : mayI (ofI v) = true := by
  unfold ofI; rw [if_pos h]
  unfold isI at h
  simp only [Bool.and_eq_true] at h
  exact h.1
theorem word_ofI {v : Int} (h : isI v = true) : wordI (ofI v) = v := by
  unfold ofI; rw [if_pos h]
  unfold isI at h
  simp only [Bool.and_eq_true, decide_eq_true_eq] at h
  exact h.2
/-- The fields of its word. -/
def insL (x : Ins) : List Fld := [numFl 0 12 (x.i % 4096), numFl 18 3 x.m, numFl 21 3 x.n, numFl 24 3 x.d, numFl 27 5 x.op]
theorem insL_ok (x : Ins) (h : mayI x = true) : ∀ y ∈ insL x, okF y = true := by
  obtain ⟨⟨a0, a1⟩, ⟨b0, b1⟩, ⟨c0, c1⟩, ⟨d0, d1⟩, ⟨e0, e1⟩, _⟩ := mayI_iff.1 h
  intro y hy
  simp only [insL, List.mem_cons, List.not_mem_nil, or_false] at hy
  rcases hy with rfl | rfl | rfl | rfl | rfl
  · exact ok_num _ _ _ (by omega) (by omega) (by omega) (by omega) (by omega) (by rw [show u (msk 12) = 4095 from by decide]; omega)
  · exact ok_num _ _ _ (by omega) (by omega) (by omega) (by omega) (by omega) (by rw [show u (msk 3) = 7 from by decide]; omega)
  · exact ok_num _ _ _ (by omega) (by omega) (by omega) (by omega) (by omega) (by rw [show u (msk 3) = 7 from by decide]; omega)
  · exact ok_num _ _ _ (by omega) (by omega) (by omega) (by omega) (by omega) (by rw [show u (msk 3) = 7 from by decide]; omega)
  · exact ok_num _ _ _ (by omega) (by omega) (by omega) (by omega) (by omega) (by rw [show u (msk 5) = 31 from by decide]; omega)
theorem small_numF (p n v : Int) (h0 : -100 ≤ p) (h1 : p ≤ 100) (h2 : -100 ≤ n) (h3 : n ≤ 100) : -100 ≤ (numFl p n v).a ∧ (numFl p n v).a ≤ 100 ∧ -100 ≤ (numFl p n v).n ∧ (numFl p n v).n ≤ 100 := ⟨h0, h1, h2, h3⟩
theorem insL_small (x : Ins) : SmallL (insL x) := by
  intro y hy
  simp only [insL, List.mem_cons, List.not_mem_nil, or_false] at hy
  rcases hy with rfl | rfl | rfl | rfl | rfl <;> exact small_numF _ _ _ (by decide) (by decide) (by decide) (by decide)
/-- Bits beside bits are a sum. -/
theorem or_high (b : BitVec 64) (k : Nat) (v : Int) (p : Int) (hp : p = 2 ^ k) (hb : u b < p) (h0 : 0 ≤ v) (h1 : v * p < 18446744073709551616) : u (b ||| BitVec.ofInt 64 v <<< k) = u b + v * p := by
  subst hp
  obtain ⟨a, rfl⟩ : ∃ a : Nat, v = (a : Int) := ⟨v.toNat, by omega⟩
  have hk : (0 : Int) < 2 ^ k := Int.pow_pos (by decide)
  have hpk : ((2 : Int) ^ k) = ((2 ^ k : Nat) : Int) := (Int.natCast_pow 2 k).symm
  have ha : (a : Int) < 18446744073709551616 := by
    have : (a : Int) * 1 ≤ (a : Int) * 2 ^ k := Int.mul_le_mul_of_nonneg_left (by omega) (by omega)
    omega
  have h2 : a * 2 ^ k < 18446744073709551616 := by
    rw [hpk] at h1
    have h3 : ((a * 2 ^ k : Nat) : Int) < 18446744073709551616 := by rw [Int.natCast_mul]; exact h1
    omega
  have hc : (BitVec.ofInt 64 (a : Int) <<< k).toNat = a * 2 ^ k := by
    rw [BitVec.toNat_shiftLeft, ofInt_u64 a (by omega), Nat.shiftLeft_eq]
    exact Nat.mod_eq_of_lt h2
  have hb' : b.toNat < 2 ^ k := by
    unfold u at hb
    rw [hpk] at hb
    exact Int.ofNat_lt.1 hb
  unfold u
  rw [BitVec.toNat_or, hc, Nat.or_comm, nat_join k (a * 2 ^ k) b.toNat (Nat.mul_mod_left _ _) hb', hpk, ← Int.natCast_mul]
  omega
theorem insL_word (x : Ins) (h : mayI x = true) : u (joinL (insL x)).2.1 = wordI x := by
  have hj : (joinL (insL x)).2.1 = 0#64 ||| bitF (numFl 0 12 (x.i % 4096)) ||| bitF (numFl 18 3 x.m) ||| bitF (numFl 21 3 x.n) ||| bitF (numFl 24 3 x.d) ||| bitF (numFl 27 5 x.op) := by
    unfold joinL layR
    rw [if_pos (fun i hi => by rw [nth_get (List.getElem?_eq_getElem hi)]; exact insL_ok x h _ (List.getElem_mem hi))]
    show (layFrom (nth (insL x)) 5 0 0#64 0#64).2.1 = _
    rw [layFrom_yes (by simp), layFrom_yes ?_, layFrom_yes ?_, layFrom_yes ?_, layFrom_yes ?_, layFrom_done]
    · rfl
    · show (0#64 ||| mskF (numFl 0 12 (x.i % 4096)) ||| mskF (numFl 18 3 x.m) ||| mskF (numFl 21 3 x.n) ||| mskF (numFl 24 3 x.d)) &&& mskF (numFl 27 5 x.op) = 0#64
      unfold mskF numFl
      simp only
      decide
    · show (0#64 ||| mskF (numFl 0 12 (x.i % 4096)) ||| mskF (numFl 18 3 x.m) ||| mskF (numFl 21 3 x.n)) &&& mskF (numFl 24 3 x.d) = 0#64
      unfold mskF numFl
      simp only
      decide
    · show (0#64 ||| mskF (numFl 0 12 (x.i % 4096)) ||| mskF (numFl 18 3 x.m)) &&& mskF (numFl 21 3 x.n) = 0#64
      unfold mskF numFl
      simp only
      decide
    · show (0#64 ||| mskF (numFl 0 12 (x.i % 4096))) &&& mskF (numFl 18 3 x.m) = 0#64
      unfold mskF numFl
      simp only
      decide
  obtain ⟨⟨a0, a1⟩, ⟨b0, b1⟩, ⟨c0, c1⟩, ⟨d0, d1⟩, ⟨e0, e1⟩, _⟩ := mayI_iff.1 h
  rw [hj]
  have e1 : u (0#64 ||| bitF (numFl 0 12 (x.i % 4096))) = x.i % 4096 := by
    have : u (0#64 ||| bitF (numFl 0 12 (x.i % 4096))) = _ := or_high 0#64 0 (x.i % 4096) 1 (by decide) (by decide) (by omega) (by omega)
    rw [this, show u 0#64 = 0 from by decide]; omega
  have e2 : u (0#64 ||| bitF (numFl 0 12 (x.i % 4096)) ||| bitF (numFl 18 3 x.m)) = x.i % 4096 + x.m * 262144 := by
    have : u ((0#64 ||| bitF (numFl 0 12 (x.i % 4096))) ||| bitF (numFl 18 3 x.m)) = _ := or_high _ 18 x.m 262144 (by decide) (by rw [e1]; omega) (by omega) (by omega)
    rw [this, e1]
  have e3 : u (0#64 ||| bitF (numFl 0 12 (x.i % 4096)) ||| bitF (numFl 18 3 x.m) ||| bitF (numFl 21 3 x.n)) = x.i % 4096 + x.m * 262144 + x.n * 2097152 := by
    have : u ((0#64 ||| bitF (numFl 0 12 (x.i % 4096)) ||| bitF (numFl 18 3 x.m)) ||| bitF (numFl 21 3 x.n)) = _ := or_high _ 21 x.n 2097152 (by decide) (by rw [e2]; omega) (by omega) (by omega)
    rw [this, e2]
  have e4 : u (0#64 ||| bitF (numFl 0 12 (x.i % 4096)) ||| bitF (numFl 18 3 x.m) ||| bitF (numFl 21 3 x.n) ||| bitF (numFl 24 3 x.d)) = x.i % 4096 + x.m * 262144 + x.n * 2097152 + x.d * 16777216 := by
    have : u ((0#64 ||| bitF (numFl 0 12 (x.i % 4096)) ||| bitF (numFl 18 3 x.m) ||| bitF (numFl 21 3 x.n)) ||| bitF (numFl 24 3 x.d)) = _ := or_high _ 24 x.d 16777216 (by decide) (by rw [e3]; omega) (by omega) (by omega)
    rw [this, e3]
  have e5 : u (0#64 ||| bitF (numFl 0 12 (x.i % 4096)) ||| bitF (numFl 18 3 x.m) ||| bitF (numFl 21 3 x.n) ||| bitF (numFl 24 3 x.d) ||| bitF (numFl 27 5 x.op)) = _ := or_high _ 27 x.op 134217728 (by decide) (by rw [e4]; omega) (by omega) (by omega)
  rw [e5, e4]
  unfold wordI
  omega
/-- What is got of a word of 32 bits. -/
theorem mod_msk (x : BitVec 64) (n : Nat) (hn : n ≤ 12) : u (x &&& msk n) = u x % 2 ^ n := by
  have hm : (msk n).toNat = 2 ^ n - 1 := by
    have := msk_nat n (by omega) (by omega)
    simpa using this
  unfold u
  rw [BitVec.toNat_and, hm, Nat.and_two_pow_sub_one_eq_mod]
  norm_cast
theorem got32 (v : Int) (a n : Nat) (h0 : 0 ≤ v) (h1 : v ≤ 4294967295) (hn : n ≤ 12) : u (BitVec.ofInt 64 v >>> a &&& msk n) = v / 2 ^ a % 2 ^ n := by
  rw [mod_msk _ n hn, ← u_shr, u_int h0 (by omega)]
theorem got32_27 (v : Int) (h0 : 0 ≤ v) (h1 : v ≤ 4294967295) : u (BitVec.ofInt 64 v >>> (27 : Int).toNat &&& msk 5) = v / 134217728 := by
  have : u (BitVec.ofInt 64 v >>> 27 &&& msk (5 : Nat)) = v / 2 ^ 27 % 2 ^ 5 := got32 v 27 5 h0 h1 (by decide)
  exact this.trans (by omega)
theorem got32_3 (v : Int) (a : Nat) (p : Int) (hp : p = 2 ^ a) (h0 : 0 ≤ v) (h1 : v ≤ 4294967295) : u (BitVec.ofInt 64 v >>> a &&& msk 3) = v / p % 8 := by
  subst hp
  exact got32 v a 3 h0 h1 (by decide)
theorem got32_0 (v : Int) (h0 : 0 ≤ v) (h1 : v ≤ 4294967295) : u (BitVec.ofInt 64 v >>> (0 : Int).toNat &&& msk 12) = v % 4096 := by
  have : u (BitVec.ofInt 64 v >>> 0 &&& msk (12 : Nat)) = v / 2 ^ 0 % 2 ^ 12 := got32 v 0 12 h0 h1 (by decide)
  exact this.trans (by omega)
/-- The low part of a number that may be below 0. -/
theorem low12 (i : Int) : BitVec.ofInt 64 i >>> (0 : Int).toNat &&& msk 12 = BitVec.ofInt 64 (i % 4096) := by
  apply u_inj.1
  have h1 : u (BitVec.ofInt 64 i >>> 0 &&& msk (12 : Nat)) = u (BitVec.ofInt 64 i >>> 0) % 2 ^ 12 := mod_msk _ 12 (by decide)
  rw [show BitVec.ofInt 64 i >>> 0 = BitVec.ofInt 64 i from by simp, ← u_conv, IntKind.wrap_u64] at h1
  refine h1.trans ?_
  rw [u_int (by omega) (by omega)]
  omega
/-- The number that the lowest bits are, with a sign. -/
def sgn (v : BitVec 64) (n : Int) : BitVec 64 := (v <<< (64 - n).toNat).sshiftRight (64 - n).toNat
theorem sgn12 (n : Int) (h0 : 0 ≤ n) (h1 : n < 4096) : wrap64 (u (sgn (BitVec.ofInt 64 n) 12)) = sg12 n := by
  rw [u_signed]
  unfold sgn
  rw [show (64 - (12 : Int)).toNat = 52 from by decide, BitVec.toInt_sshiftRight, BitVec.toInt_eq_toNat_cond, BitVec.toNat_shiftLeft, Nat.shiftLeft_eq, Int.shiftRight_eq_div_pow]
  have h2 : (BitVec.ofInt 64 n).toNat = n.toNat := by
    have := u_int h0 (show n < 9223372036854775808 by omega)
    unfold u at this
    omega
  rw [h2, Nat.mod_eq_of_lt (show n.toNat * 2 ^ 52 < 2 ^ 64 by omega)]
  unfold sg12
  split <;> split <;> omega
end Go.Proofs.Ythmcamgbnjfklaa
