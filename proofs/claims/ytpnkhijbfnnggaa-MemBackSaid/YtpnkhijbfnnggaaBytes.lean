/- Plain bits: the bytes of a memory. -/
import Derived.Test.YtpnkhijbfnnggaaMemH
namespace Go.Proofs.Ytpnkhijbfnnggaa
open Go.RowKit

theorem rd_bit (M : Nat → BitVec 64) (a s : Int) (h0 : 1 ≤ s) (h1 : s ≤ 8) (i : Nat) : (rdV M a s).getLsbD i = (decide (i < (8 * s).toNat) && (M (a / 8).toNat).getLsbD ((a % 8 * 8).toNat + i)) := by
  unfold rdV
  rw [BitVec.getLsbD_and, BitVec.getLsbD_ushiftRight, msk_bit (8 * s) i (by omega) (by omega), Bool.and_comm]
theorem pw_bit (x : BitVec 64) (k : Nat) (s : Int) (v : BitVec 64) (h0 : 1 ≤ s) (h1 : k + (8 * s).toNat ≤ 64) (i : Nat) (hi : i < 64) : (pwV x k s v).getLsbD i = if k ≤ i ∧ i < k + (8 * s).toNat then v.getLsbD (i - k) else x.getLsbD i := by
  unfold pwV
  rw [BitVec.getLsbD_or, BitVec.getLsbD_and, BitVec.getLsbD_not, BitVec.getLsbD_shiftLeft, BitVec.getLsbD_shiftLeft, BitVec.getLsbD_and, msk_bit (8 * s) _ (by omega) (by omega), decide_eq_true hi]
  by_cases p : i < k
  · rw [if_neg (by omega), decide_eq_true p]; simp
  · by_cases q : i < k + (8 * s).toNat
    · rw [if_pos (by omega), decide_eq_false p, decide_eq_true (show i - k < (8 * s).toNat by omega)]; simp
    · rw [if_neg (by omega), decide_eq_false p, decide_eq_false (show ¬ i - k < (8 * s).toNat by omega)]; simp

/-- A byte of a number. -/
def byV (v : BitVec 64) (k : Nat) : BitVec 64 := v >>> (8 * k) &&& msk 8

theorem rd_wr (M : Nat → BitVec 64) (a s : Int) (v : BitVec 64) (j : Nat) (ha : 0 ≤ a) (hs : okS s = true) (hm : a % s = 0) :
    rdV (wrV M a s v) j 1 = if a ≤ j ∧ (j : Int) < a + s then byV v (j - a.toNat) else rdV M j 1 := by
  have hs1 := okS_true hs
  apply BitVec.eq_of_getLsbD_eq
  intro i hi
  rw [rd_bit _ _ _ (by omega) (by omega)]
  by_cases hw : ((j : Int) / 8).toNat = (a / 8).toNat
  · have e1 : wrV M a s v ((j : Int) / 8).toNat = pwV (M (a / 8).toNat) (a % 8 * 8).toNat s v := by
      unfold wrV upd; rw [if_pos hw]
    rw [e1]
    by_cases hi8 : i < 8
    · rw [pw_bit _ _ _ _ (by omega) (by rcases hs1 with rfl | rfl | rfl | rfl <;> omega) _ (by omega)]
      by_cases hin : a ≤ j ∧ (j : Int) < a + s
      · rw [if_pos hin, if_pos (by rcases hs1 with rfl | rfl | rfl | rfl <;> omega)]
        unfold byV
        rw [BitVec.getLsbD_and, BitVec.getLsbD_ushiftRight, msk_bit 8 i (by omega) (by omega), Bool.and_comm]
        congr 2
        omega
      · rw [if_neg hin, if_neg (by rcases hs1 with rfl | rfl | rfl | rfl <;> omega), rd_bit _ _ _ (by omega) (by omega), hw]
    · have : ¬ i < (8 * 1 : Int).toNat := by omega
      rw [decide_eq_false this]
      split
      · unfold byV
        rw [BitVec.getLsbD_and, msk_bit 8 i (by omega) (by omega), decide_eq_false (by omega)]; simp
      · rw [rd_bit _ _ _ (by omega) (by omega), decide_eq_false this]; rfl
  · have e1 : wrV M a s v ((j : Int) / 8).toNat = M ((j : Int) / 8).toNat := by
      unfold wrV upd; rw [if_neg hw]
    rw [e1, if_neg (by rcases hs1 with rfl | rfl | rfl | rfl <;> omega), rd_bit _ _ _ (by omega) (by omega)]

/-- The bytes together. -/
def orB (C : Nat → BitVec 64) : Nat → BitVec 64
  | 0 => 0#64
  | k + 1 => orB C k ||| (C k <<< (8 * k))
theorem orB_bit (C : Nat → BitVec 64) (hC : ∀ k i, 8 ≤ i → (C k).getLsbD i = false) (i : Nat) : ∀ k, k ≤ 8 → (orB C k).getLsbD i = (decide (i < 8 * k) && (C (i / 8)).getLsbD (i % 8))
  | 0, _ => by simp [orB]
  | k + 1, hk => by
    unfold orB
    rw [BitVec.getLsbD_or, orB_bit C hC i k (by omega), BitVec.getLsbD_shiftLeft]
    by_cases h1 : i < 8 * k
    · rw [decide_eq_true h1, decide_eq_true (show i < 8 * (k + 1) by omega)]; simp
    · by_cases h2 : i < 8 * (k + 1)
      · rw [decide_eq_false h1, decide_eq_true h2, decide_eq_true (show i < 64 by omega), show i / 8 = k from by omega, show i - 8 * k = i % 8 from by omega]; simp
      · rw [decide_eq_false h1, decide_eq_false h2, hC k (i - 8 * k) (by omega)]; simp
theorem or_rd (M : Nat → BitVec 64) (b s : Nat) (hs : s = 1 ∨ s = 2 ∨ s = 4 ∨ s = 8) (hb : b % s = 0) : orB (fun k => rdV M ((b : Int) + k) 1) s = rdV M b s := by
  apply BitVec.eq_of_getLsbD_eq
  intro i hi
  rw [orB_bit _ (fun k i h => by rw [rd_bit _ _ _ (by omega) (by omega), decide_eq_false (by omega)]; rfl) i s (by omega), rd_bit _ _ _ (by omega) (by omega), rd_bit _ _ _ (by omega) (by omega)]
  by_cases h : i < 8 * s
  · rw [decide_eq_true h, decide_eq_true (show i % 8 < (8 * 1 : Int).toNat by omega), decide_eq_true (show i < (8 * (s : Int)).toNat by omega)]
    simp only [Bool.true_and]
    have e1 : (((b : Int) + ((i / 8 : Nat) : Int)) / 8).toNat = ((b : Int) / 8).toNat := by
      rcases hs with rfl | rfl | rfl | rfl <;> omega
    have e2 : (((b : Int) + ((i / 8 : Nat) : Int)) % 8 * 8).toNat + i % 8 = ((b : Int) % 8 * 8).toNat + i := by
      rcases hs with rfl | rfl | rfl | rfl <;> omega
    rw [e1, e2]
  · rw [decide_eq_false h, decide_eq_false (show ¬ i < (8 * (s : Int)).toNat by omega)]; rfl
theorem by_cut (x : BitVec 64) : IntKind.u8.wrap (u x) = u (x &&& msk 8) := by
  have h1 : msk 8 = 255#64 := by decide
  unfold u
  rw [h1, BitVec.toNat_and, show (255#64).toNat = 2 ^ 8 - 1 from rfl, Nat.and_two_pow_sub_one_eq_mod]
  have h2 : IntKind.u8.wrap ((x.toNat : Nat) : Int) = ((x.toNat : Nat) : Int) % 256 := by
    simp [IntKind.wrap, IntKind.signed, IntKind.bits]
  rw [h2]
  omega
theorem rd_small (M : Nat → BitVec 64) (j : Int) : u (rdV M j 1) < 256 := by
  unfold rdV u
  rw [show msk (8 * 1) = 255#64 from by decide, BitVec.toNat_and, show (255#64).toNat = 2 ^ 8 - 1 from rfl, Nat.and_two_pow_sub_one_eq_mod]
  omega
end Go.Proofs.Ytpnkhijbfnnggaa
