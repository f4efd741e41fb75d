/- Roots, plainly: which may be, their words, what a word is. -/
import Derived.Test.YtlflfpohglgopaaRb
import Derived.Test.YtlflfpohglgopaaRj
import Derived.Test.YtlflfpohglgopaaOwnL
set_option linter.all false
namespace Go.Proofs.Ytlflfpohglgopaa
open Go.ChangeShapes Go.WideShapes Go.ChangeAt Go.RowKit Go.Deep

/-- A root. -/
structure Rt where
  o : Bool
  f : Int
  t : Int
deriving DecidableEq

def rz : Rt := ⟨false, 0, 0⟩
def eqT (a b : Rt) : Bool := decide (a = b)
theorem eqT_self (a : Rt) : eqT a a = true := by simp [eqT]
def mayT (r : Rt) : Bool := numB r.f 4095 && numB r.t 15
def rootL (r : Rt) : List Fld := [bitFl 0 r.o, numFl 12 12 r.f, numFl 48 4 r.t]
def wordT (r : Rt) : BitVec 64 := (joinL (rootL r)).2.1
def readT (v : BitVec 64) : Rt := ⟨flagW v 0, getN v 12 12, getN v 48 4⟩
def isT (v : BitVec 64) : Bool := decide (wordT (readT v) = v)
theorem mayT_iff {r : Rt} : mayT r = true ↔ (0 ≤ r.f ∧ r.f ≤ 4095) ∧ 0 ≤ r.t ∧ r.t ≤ 15 := by
  simp only [mayT, Bool.and_eq_true, numB_iff]
theorem rootL_ok (r : Rt) (h : mayT r = true) : ∀ y ∈ rootL r, okF y = true := by
  obtain ⟨⟨f0, f1⟩, t0, t1⟩ := mayT_iff.1 h
  intro y hy
  simp only [rootL, List.mem_cons, List.not_mem_nil, or_false] at hy
  rcases hy with rfl | rfl | rfl
  · exact ok_bit _ _ (by omega) (by omega)
  · exact ok_num _ _ _ (by omega) (by omega) (by omega) f0 (by omega) (by rw [show u (msk 12) = 4095 from by decide]; omega)
  · exact ok_num _ _ _ (by omega) (by omega) (by omega) t0 (by omega) (by rw [show u (msk 4) = 15 from by decide]; omega)
theorem rootL_free (r : Rt) : freeP ((rootL r).map posF) 0#64 = true := by
  simp only [rootL, List.map_cons, List.map_nil, posF, bitFl, numFl]; decide
theorem rootL_small (r : Rt) : SmallL (rootL r) := by
  intro x hx
  simp only [rootL, List.mem_cons, List.not_mem_nil, or_false] at hx
  rcases hx with rfl | rfl | rfl
  · exact small_bit _ _ (by decide) (by decide)
  · exact small_num _ _ _ (by decide) (by decide) (by decide) (by decide)
  · exact small_num _ _ _ (by decide) (by decide) (by decide) (by decide)
/-- What a root's word is read as. -/
theorem read_wordT (r : Rt) (h : mayT r = true) : readT (wordT r) = r := by
  have G := gets_join _ (rootL_ok r h) (rootL_free r)
  obtain ⟨⟨f0, f1⟩, t0, t1⟩ := mayT_iff.1 h
  obtain ⟨o, f, t⟩ := r
  simp only at f0 f1 t0 t1
  unfold readT wordT
  rw [G.flag 0 0 o rfl, G.num 1 12 12 f rfl f0 (by omega), G.num 2 48 4 t rfl t0 (by omega)]
theorem isT_word (r : Rt) (h : mayT r = true) : isT (wordT r) = true := by
  unfold isT; rw [read_wordT r h]; exact decide_eq_true rfl
theorem getN_le (v : BitVec 64) (p m : Int) (h0 : 0 ≤ m) (h1 : m ≤ 64) : getN v p m ≤ ((2 ^ m.toNat - 1 : Nat) : Int) := by
  unfold getN u
  rw [BitVec.toNat_and, msk_nat m h0 h1]
  have h2 : (v >>> p.toNat).toNat &&& (2 ^ m.toNat - 1) ≤ 2 ^ m.toNat - 1 := Nat.and_le_right
  exact Int.ofNat_le.2 h2
theorem may_read (v : BitVec 64) : mayT (readT v) = true := by
  rw [mayT_iff]
  have a := getN_le v 12 12 (by decide) (by decide)
  have b := getN_le v 48 4 (by decide) (by decide)
  rw [show (((2 ^ (12 : Int).toNat - 1 : Nat)) : Int) = 4095 from by decide] at a
  rw [show (((2 ^ (4 : Int).toNat - 1 : Nat)) : Int) = 15 from by decide] at b
  exact ⟨⟨u_lo _, a⟩, u_lo _, b⟩
/-- The bits of a root's word. -/
theorem wordT_bits (r : Rt) (h : mayT r = true) : wordT r = 0#64 ||| bitF (bitFl 0 r.o) ||| bitF (numFl 12 12 r.f) ||| bitF (numFl 48 4 r.t) := by
  unfold wordT joinL layR
  rw [if_pos (fun i hi => by rw [nth_get (List.getElem?_eq_getElem hi)]; exact rootL_ok r h _ (List.getElem_mem hi))]
  show (layFrom (nth (rootL r)) 3 0 0#64 0#64).2.1 = _
  rw [layFrom_yes (by simp), layFrom_yes ?_, layFrom_yes ?_, layFrom_done]
  · rfl
  · show (0#64 ||| mskF (bitFl 0 r.o) ||| mskF (numFl 12 12 r.f)) &&& mskF (numFl 48 4 r.t) = 0#64
    unfold mskF bitFl numFl
    simp only
    decide
  · show (0#64 ||| mskF (bitFl 0 r.o)) &&& mskF (numFl 12 12 r.f) = 0#64
    unfold mskF bitFl numFl
    simp only
    decide
theorem bitF_off {x : Fld} (h : okF x = true) (k : Nat) (hk : k < 64) (hm : (mskF x).getLsbD k = false) : (bitF x).getLsbD k = false := by
  have := bits_of _ _ k (bitF_in h)
  simp only [BitVec.getLsbD_and, BitVec.getLsbD_not, BitVec.getLsbD_zero, hk, decide_true, hm, Bool.not_false, Bool.and_true] at this
  exact this
def offT (k : Nat) : Bool := decide (1 ≤ k ∧ k < 64 ∧ ¬ (12 ≤ k ∧ k < 24) ∧ ¬ (48 ≤ k ∧ k < 52))
theorem off_masks : ∀ k : Fin 64, offT k = true → (msk 1 <<< 0).getLsbD k = false ∧ (msk 12 <<< 12).getLsbD k = false ∧ (msk 4 <<< 48).getLsbD k = false := by decide +kernel
theorem wordT_off (r : Rt) (h : mayT r = true) (k : Nat) (hk : offT k = true) : (wordT r).getLsbD k = false := by
  have hlt : k < 64 := (of_decide_eq_true hk).2.1
  obtain ⟨m0, m1, m2⟩ := off_masks ⟨k, hlt⟩ hk
  have ok := rootL_ok r h
  rw [wordT_bits r h]
  simp only [BitVec.getLsbD_or, BitVec.getLsbD_zero, Bool.false_or]
  rw [bitF_off (ok (bitFl 0 r.o) (by simp [rootL])) k hlt m0, bitF_off (ok (numFl 12 12 r.f) (by simp [rootL])) k hlt m1, bitF_off (ok (numFl 48 4 r.t) (by simp [rootL])) k hlt m2]
  rfl
/-- With a bit that no root has it is none. -/
theorem isT_off (v : BitVec 64) (k : Nat) (hk : offT k = true) : isT (v ||| 1#64 <<< k) = false := by
  have hlt : k < 64 := (of_decide_eq_true hk).2.1
  refine decide_eq_false (fun h => ?_)
  have a := wordT_off _ (may_read (v ||| 1#64 <<< k)) k hk
  rw [h] at a
  simp [hlt] at a

theorem eq_root (o : Bool) (f t : Int) (o' : Bool) (f' t' : Int) (w : World) :
    (Op.equalIn 10000 42 (.agg #[.bool o, .int .i64 f, .int .i64 t]) (.agg #[.bool o', .int .i64 f', .int .i64 t'])).run Try.prog w = .ok (eqT ⟨o, f, t⟩ ⟨o', f', t'⟩) w := by
  rw [run_equalIn_agg w 9999 _ _ _ (by kernel_rfl) (by kernel_rfl)]
  simp only [Program.fieldsOf, Try.underlying42]
  simp [go_sem, eqT]
  by_cases h1 : o = o'
  rotate_left
  · simp [h1]
  by_cases h2 : f = f'
  rotate_left
  · simp [h1, h2]
  by_cases h3 : t = t'
  rotate_left
  · simp [h1, h2, h3]
  simp [h1, h2, h3]
/-- Two roots, compared. -/
@[go_sem high] theorem eql_root (o : Bool) (f t : Int) (o' : Bool) (f' t' : Int) (w : World) :
    (binOp .eql 42 (.agg #[.bool o, .int .i64 f, .int .i64 t]) (.agg #[.bool o', .int .i64 f', .int .i64 t'])).run Try.prog w = .ok (.bool (eqT ⟨o, f, t⟩ ⟨o', f', t'⟩)) w := by
  rw [run_eql_struct, eq_root]; rfl
@[go_sem high] theorem neq_root (o : Bool) (f t : Int) (o' : Bool) (f' t' : Int) (w : World) :
    (binOp .neq 42 (.agg #[.bool o, .int .i64 f, .int .i64 t]) (.agg #[.bool o', .int .i64 f', .int .i64 t'])).run Try.prog w = .ok (.bool (!eqT ⟨o, f, t⟩ ⟨o', f', t'⟩)) w := by
  rw [run_neq_struct, eq_root]; rfl
end Go.Proofs.Ytlflfpohglgopaa
