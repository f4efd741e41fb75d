/- What is reckoned, plainly; and bit by bit. -/
import Derived.Test.YthmcamgbnjfklaaGa
set_option linter.all false
namespace Go.Proofs.Ythmcamgbnjfklaa
open Go.ChangeShapes Go.WideShapes Go.ChangeAt Go.RowKit Go.Deep

def mayDo (x : Ins) : Bool := mayI x && decide (x.op ≤ 6)
/-- A number below 0 as 64 bits. -/
def immW (i : Int) : BitVec 64 := BitVec.ofInt 64 i
def doI (op i : Int) (n m : BitVec 64) : BitVec 64 :=
  if op = 1 then immW i else if op = 2 then n + m + immW i else if op = 3 then n - m - immW i else if op = 4 then n &&& m else if op = 5 then n ||| m else n ^^^ m
/-- The lowest bits alone. -/
def lowB (R : BitVec 64) (k : Nat) : BitVec 64 := (R.setWidth k).setWidth 64
theorem lowB_bit (R : BitVec 64) (k i : Nat) : (lowB R k).getLsbD i = (decide (i < k) && R.getLsbD i) := by
  unfold lowB
  rw [BitVec.getLsbD_setWidth, BitVec.getLsbD_setWidth]
  by_cases hi : i < 64
  · simp [hi]
  · rw [BitVec.getLsbD_of_ge R i (by omega)]
    simp
theorem lowB_zero (R : BitVec 64) : lowB R 0 = 0#64 := by
  apply BitVec.eq_of_getLsbD_eq
  intro i hi
  rw [lowB_bit]
  simp
theorem lowB_full (R : BitVec 64) : lowB R 64 = R := by
  apply BitVec.eq_of_getLsbD_eq
  intro i hi
  rw [lowB_bit]
  simp [hi]
theorem lowB_next (R : BitVec 64) (k : Nat) (hk : k < 64) (b : Bool) (hb : R.getLsbD k = b) : lowB R (k + 1) = lowB R k ||| (if b then 1#64 else 0#64) <<< k := by
  subst hb
  apply BitVec.eq_of_getLsbD_eq
  intro i hi
  rw [BitVec.getLsbD_or, lowB_bit, lowB_bit, BitVec.getLsbD_shiftLeft]
  by_cases h1 : i < k
  · have h2 : i < k + 1 := by omega
    simp [h1, h2, hi]
  · by_cases h2 : i = k
    · subst h2
      cases h3 : R.getLsbD i <;> simp [hi]
    · have h3 : ¬ i < k + 1 := by omega
      have h4 : i - k ≠ 0 := by omega
      cases h5 : R.getLsbD k <;> simp [h1, h3, hi, h4]
/-- One bit of a number. -/
theorem one_bit (a : BitVec 64) (k : Nat) (b : Bool) (hb : a.getLsbD k = b) : bits .and .u64 (u (a >>> k)) 1 = if b then 1 else 0 := by
  subst hb
  have h1 : (1 : Int) = u 1#64 := by decide
  rw [h1, u_and]
  have : a >>> k &&& 1#64 = if a.getLsbD k then 1#64 else 0#64 := by
    apply BitVec.eq_of_getLsbD_eq
    intro i hi
    rw [BitVec.getLsbD_and, BitVec.getLsbD_ushiftRight]
    by_cases h0 : i = 0
    · subst h0
      cases h : a.getLsbD k <;> simp [h]
    · cases h : a.getLsbD k <;> simp [h0]
  rw [this]
  cases a.getLsbD k <;> decide
/-- What is carried. -/
def cyB (a b : BitVec 64) (c : Bool) (k : Nat) : Bool := BitVec.carry k a b c
def sumB (a b : BitVec 64) (c : Bool) : BitVec 64 := a + b + BitVec.setWidth 64 (BitVec.ofBool c)
theorem cyB_zero (a b : BitVec 64) (c : Bool) : cyB a b c 0 = c := BitVec.carry_zero
theorem cyB_next (a b : BitVec 64) (c : Bool) (k : Nat) : cyB a b c (k + 1) = Bool.atLeastTwo (a.getLsbD k) (b.getLsbD k) (cyB a b c k) := BitVec.carry_succ k a b c
theorem sumB_bit (a b : BitVec 64) (c : Bool) (k : Nat) (hk : k < 64) : (sumB a b c).getLsbD k = (a.getLsbD k ^^ (b.getLsbD k ^^ cyB a b c k)) := BitVec.getLsbD_add_add_bool hk a b c
theorem sumB_add (a b : BitVec 64) : sumB a b false = a + b := by
  unfold sumB
  simp
theorem sumB_sub (a b : BitVec 64) : sumB a (~~~b) true = a - b := by
  unfold sumB
  rw [BitVec.sub_eq_add_neg, BitVec.neg_eq_not_add, BitVec.add_assoc]
  rfl
theorem or_split (n m : BitVec 64) : n ||| m = n + (m &&& ~~~n) := by
  rw [BitVec.add_eq_or_of_and_eq_zero]
  · apply BitVec.eq_of_getLsbD_eq
    intro i hi
    simp only [BitVec.getLsbD_or, BitVec.getLsbD_and, BitVec.getLsbD_not, hi, decide_true]
    cases n.getLsbD i <;> cases m.getLsbD i <;> rfl
  · apply BitVec.eq_of_getLsbD_eq
    intro i hi
    simp only [BitVec.getLsbD_and, BitVec.getLsbD_not, hi, decide_true, BitVec.getLsbD_zero]
    cases n.getLsbD i <;> cases m.getLsbD i <;> rfl
theorem and_split (n m : BitVec 64) : m = (n &&& m) + (m &&& ~~~n) := by
  rw [BitVec.add_eq_or_of_and_eq_zero]
  · apply BitVec.eq_of_getLsbD_eq
    intro i hi
    simp only [BitVec.getLsbD_or, BitVec.getLsbD_and, BitVec.getLsbD_not, hi, decide_true]
    cases n.getLsbD i <;> cases m.getLsbD i <;> rfl
  · apply BitVec.eq_of_getLsbD_eq
    intro i hi
    simp only [BitVec.getLsbD_and, BitVec.getLsbD_not, hi, decide_true, BitVec.getLsbD_zero]
    cases n.getLsbD i <;> cases m.getLsbD i <;> rfl
theorem xor_split (n m : BitVec 64) : n ||| m = (n ^^^ m) + (n &&& m) := by
  rw [BitVec.add_eq_or_of_and_eq_zero]
  · apply BitVec.eq_of_getLsbD_eq
    intro i hi
    simp only [BitVec.getLsbD_or, BitVec.getLsbD_and, BitVec.getLsbD_xor]
    cases n.getLsbD i <;> cases m.getLsbD i <;> rfl
  · apply BitVec.eq_of_getLsbD_eq
    intro i hi
    simp only [BitVec.getLsbD_and, BitVec.getLsbD_xor, BitVec.getLsbD_zero]
    cases n.getLsbD i <;> cases m.getLsbD i <;> rfl
theorem and_or_sum (n m : BitVec 64) : (n &&& m) + (n ||| m) = n + m := by
  rw [or_split, ← BitVec.add_assoc, BitVec.add_comm (n &&& m) n, BitVec.add_assoc, ← and_split]
theorem or_sub_and (n m : BitVec 64) : (n ||| m) - (n &&& m) = n ^^^ m := by
  rw [xor_split, BitVec.add_sub_cancel]
theorem xor_twice (n m : BitVec 64) : (n ^^^ m) ^^^ m = n := by
  rw [BitVec.xor_assoc, BitVec.xor_self, BitVec.xor_zero]
theorem add_back (n m i : BitVec 64) : n + m + i - m - i = n := by
  rw [BitVec.add_assoc, BitVec.add_comm m i, ← BitVec.add_assoc, BitVec.add_sub_cancel, BitVec.add_sub_cancel]
end Go.Proofs.Ythmcamgbnjfklaa
