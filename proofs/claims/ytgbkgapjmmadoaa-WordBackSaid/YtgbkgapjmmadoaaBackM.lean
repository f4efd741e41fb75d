/- Plain bits: what was put is got, and nothing else changes. -/
import Derived.Test.YtgbkgapjmmadoaaPut
namespace Go.Proofs.Ytgbkgapjmmadoaa
open Go.RowKit

theorem mskF_bit (a n : Int) (x : BitVec 64) (h0 : 0 ≤ a) (h1 : 1 ≤ n) (h2 : a + n ≤ 64) (i : Nat) (hi : i < 64) :
    (mskF ⟨a, n, x⟩).getLsbD i = (decide (a.toNat ≤ i) && decide (i < a.toNat + n.toNat)) := by
  unfold mskF
  rw [BitVec.getLsbD_shiftLeft, msk_bit n _ (by omega) (by omega), decide_eq_true hi]
  rw [Bool.eq_iff_iff]
  simp
  omega
theorem bitF_bit (a n : Int) (x : BitVec 64) (i : Nat) (hi : i < 64) :
    (bitF ⟨a, n, x⟩).getLsbD i = (decide (a.toNat ≤ i) && x.getLsbD (i - a.toNat)) := by
  unfold bitF
  rw [BitVec.getLsbD_shiftLeft, decide_eq_true hi]
  by_cases h : i < a.toNat
  · rw [decide_eq_true h, decide_eq_false (show ¬ a.toNat ≤ i from by omega)]; rfl
  · rw [decide_eq_false h, decide_eq_true (show a.toNat ≤ i from by omega)]; rfl
theorem putV_bit (v : BitVec 64) (a n : Int) (x : BitVec 64) (h0 : 0 ≤ a) (h1 : 1 ≤ n) (h2 : a + n ≤ 64) (hx : ∀ k, n.toNat ≤ k → x.getLsbD k = false) (i : Nat) (hi : i < 64) :
    (putV v ⟨a, n, x⟩).getLsbD i = if a.toNat ≤ i ∧ i < a.toNat + n.toNat then x.getLsbD (i - a.toNat) else v.getLsbD i := by
  unfold putV
  rw [BitVec.getLsbD_or, BitVec.getLsbD_and, BitVec.getLsbD_not, mskF_bit a n x h0 h1 h2 i hi, bitF_bit a n x i hi]
  by_cases p : a.toNat ≤ i
  · by_cases q : i < a.toNat + n.toNat
    · rw [if_pos ⟨p, q⟩, decide_eq_true p, decide_eq_true q]; simp
    · rw [if_neg (fun h => q h.2), decide_eq_true p, decide_eq_false q, hx (i - a.toNat) (by omega), decide_eq_true hi]; simp
  · rw [if_neg (fun h => p h.1), decide_eq_false p, decide_eq_true hi]; simp
/-- What Get tells. -/
def getV (v : BitVec 64) (a n : Int) : BitVec 64 := v >>> a.toNat &&& msk n
theorem getV_bit (v : BitVec 64) (a n : Int) (h1 : 1 ≤ n) (h2 : n ≤ 64) (i : Nat) : (getV v a n).getLsbD i = (decide (i < n.toNat) && v.getLsbD (a.toNat + i)) := by
  unfold getV
  rw [BitVec.getLsbD_and, BitVec.getLsbD_ushiftRight, msk_bit n i (by omega) h2, Bool.and_comm]
theorem getV_room (v : BitVec 64) (a n : Int) (h1 : 1 ≤ n) (h2 : n ≤ 64) (k : Nat) (hk : n.toNat ≤ k) : (getV v a n).getLsbD k = false := by
  rw [getV_bit v a n h1 h2, decide_eq_false (show ¬ k < n.toNat from by omega)]; rfl
theorem okF_get (v : BitVec 64) (a n : Int) (h : okB a n = true) : okF ⟨a, n, getV v a n⟩ = true := by
  obtain ⟨h0, h1, h2⟩ := okB_true h
  unfold okF
  rw [h]
  simp only [Bool.true_and]
  refine decide_eq_true ((room_iff _ n (by omega) (by omega)).1 ?_)
  apply BitVec.eq_of_getLsbD_eq
  intro i hi
  rw [BitVec.getLsbD_and, BitVec.getLsbD_not, getV_bit v a n h1 (by omega), msk_bit n i (by omega) (by omega), BitVec.getLsbD_zero]
  by_cases p : i < n.toNat
  · rw [decide_eq_true p]; simp
  · rw [decide_eq_false p]; simp
theorem get_put (v x : BitVec 64) (a n : Int) (h0 : 0 ≤ a) (h1 : 1 ≤ n) (h2 : a + n ≤ 64) : getV (putV v ⟨a, n, getV x a n⟩) a n = getV x a n := by
  apply BitVec.eq_of_getLsbD_eq
  intro i hi
  rw [getV_bit _ a n h1 (by omega)]
  by_cases p : i < n.toNat
  · rw [decide_eq_true p, Bool.true_and, putV_bit v a n _ h0 h1 h2 (getV_room x a n h1 (by omega)) _ (by omega), if_pos ⟨by omega, by omega⟩, show a.toNat + i - a.toNat = i from by omega]
  · rw [decide_eq_false p, getV_room x a n h1 (by omega) i (by omega)]; rfl
theorem put_back (v x : BitVec 64) (a n : Int) (h0 : 0 ≤ a) (h1 : 1 ≤ n) (h2 : a + n ≤ 64) : putV (putV v ⟨a, n, getV x a n⟩) ⟨a, n, getV v a n⟩ = v := by
  apply BitVec.eq_of_getLsbD_eq
  intro i hi
  rw [putV_bit _ a n _ h0 h1 h2 (getV_room v a n h1 (by omega)) i hi, putV_bit _ a n _ h0 h1 h2 (getV_room x a n h1 (by omega)) i hi]
  by_cases p : a.toNat ≤ i ∧ i < a.toNat + n.toNat
  · rw [if_pos p, getV_bit v a n h1 (by omega), decide_eq_true (show i - a.toNat < n.toNat from by omega), show a.toNat + (i - a.toNat) = i from by omega]; rfl
  · rw [if_neg p, if_neg p]
theorem put_turns (v : BitVec 64) (a n : Int) (h0 : 0 ≤ a) (h1 : 1 ≤ n) (h2 : a + n ≤ 64) : putV v ⟨a, n, getV (~~~v) a n⟩ ^^^ v = msk n <<< a.toNat := by
  apply BitVec.eq_of_getLsbD_eq
  intro i hi
  rw [BitVec.getLsbD_xor, putV_bit _ a n _ h0 h1 h2 (getV_room _ a n h1 (by omega)) i hi]
  have e := mskF_bit a n v h0 h1 h2 i hi
  unfold mskF at e
  rw [e]
  by_cases p : a.toNat ≤ i ∧ i < a.toNat + n.toNat
  · rw [if_pos p, getV_bit _ a n h1 (by omega), decide_eq_true (show i - a.toNat < n.toNat from by omega), show a.toNat + (i - a.toNat) = i from by omega, BitVec.getLsbD_not, decide_eq_true hi, decide_eq_true p.1, decide_eq_true p.2]
    cases v.getLsbD i <;> rfl
  · rw [if_neg p]
    have : (decide (a.toNat ≤ i) && decide (i < a.toNat + n.toNat)) = false := by
      rw [Bool.eq_false_iff]; simp; omega
    rw [this]; simp
end Go.Proofs.Ytgbkgapjmmadoaa
