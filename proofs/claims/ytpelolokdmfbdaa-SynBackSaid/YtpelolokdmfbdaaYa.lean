/- Syndromes, plainly: which faults may be, their words, what a word is. -/
import Derived.Test.YtpelolokdmfbdaaRb
import Derived.Test.YtpelolokdmfbdaaRj
import Derived.Test.YtpelolokdmfbdaaOwnL
import Derived.Test.YtpelolokdmfbdaaEq
namespace Go.Proofs.Ytpelolokdmfbdaa
open Go.ChangeShapes Go.WideShapes Go.ChangeAt Go.RowKit Go.Deep

def maySy (f : Flt) : Bool := numB f.k 4 && (numB f.st 2 && (numB f.lv 3 && numB f.p 4095))
def synL (f : Flt) : List Fld := [numFl 0 3 f.k, numFl 3 2 f.st, numFl 5 2 f.lv, bitFl 7 f.w, numFl 8 12 f.p]
def wordSy (f : Flt) : BitVec 64 := (joinL (synL f)).2.1
def readSy (v : BitVec 64) : Flt := ⟨getN v 0 3, getN v 3 2, getN v 5 2, flagW v 7, getN v 8 12⟩
def isSy (v : BitVec 64) : Bool := maySy (readSy v) && decide (wordSy (readSy v) = v)
def ofSy (v : BitVec 64) : Flt := if isSy v = true then readSy v else flt0
theorem maySy_iff {f : Flt} : maySy f = true ↔ (0 ≤ f.k ∧ f.k ≤ 4) ∧ (0 ≤ f.st ∧ f.st ≤ 2) ∧ (0 ≤ f.lv ∧ f.lv ≤ 3) ∧ 0 ≤ f.p ∧ f.p ≤ 4095 := by
  simp only [maySy, Bool.and_eq_true, numB_iff]
theorem synL_ok (f : Flt) (h : maySy f = true) : ∀ y ∈ synL f, okF y = true := by
  obtain ⟨⟨a0, a1⟩, ⟨b0, b1⟩, ⟨c0, c1⟩, d0, d1⟩ := maySy_iff.1 h
  intro y hy
  simp only [synL, List.mem_cons, List.not_mem_nil, or_false] at hy
  rcases hy with rfl | rfl | rfl | rfl | rfl
  · exact ok_num _ _ _ (by omega) (by omega) (by omega) a0 (by omega) (by rw [show u (msk 3) = 7 from by decide]; omega)
  · exact ok_num _ _ _ (by omega) (by omega) (by omega) b0 (by omega) (by rw [show u (msk 2) = 3 from by decide]; omega)
  · exact ok_num _ _ _ (by omega) (by omega) (by omega) c0 (by omega) (by rw [show u (msk 2) = 3 from by decide]; omega)
  · exact ok_bit _ _ (by omega) (by omega)
  · exact ok_num _ _ _ (by omega) (by omega) (by omega) d0 (by omega) (by rw [show u (msk 12) = 4095 from by decide]; omega)
theorem synL_free (f : Flt) : freeP ((synL f).map posF) 0#64 = true := by
  simp only [synL, List.map_cons, List.map_nil, posF, bitFl, numFl]; decide
theorem synL_small (f : Flt) : SmallL (synL f) := by
  intro x hx
  simp only [synL, List.mem_cons, List.not_mem_nil, or_false] at hx
  rcases hx with rfl | rfl | rfl | rfl | rfl
  · exact small_num _ _ _ (by decide) (by decide) (by decide) (by decide)
  · exact small_num _ _ _ (by decide) (by decide) (by decide) (by decide)
  · exact small_num _ _ _ (by decide) (by decide) (by decide) (by decide)
  · exact small_bit _ _ (by decide) (by decide)
  · exact small_num _ _ _ (by decide) (by decide) (by decide) (by decide)
/-- What a fault's word is read as. -/
theorem read_wordSy (f : Flt) (h : maySy f = true) : readSy (wordSy f) = f := by
  have G := gets_join _ (synL_ok f h) (synL_free f)
  obtain ⟨⟨a0, a1⟩, ⟨b0, b1⟩, ⟨c0, c1⟩, d0, d1⟩ := maySy_iff.1 h
  obtain ⟨k, st, lv, w, p⟩ := f
  simp only at a0 a1 b0 b1 c0 c1 d0 d1
  unfold readSy wordSy
  rw [G.num 0 0 3 k rfl a0 (by omega), G.num 1 3 2 st rfl b0 (by omega), G.num 2 5 2 lv rfl c0 (by omega), G.flag 3 7 w rfl, G.num 4 8 12 p rfl d0 (by omega)]
theorem isSy_word (f : Flt) (h : maySy f = true) : isSy (wordSy f) = true := by
  unfold isSy; rw [read_wordSy f h, h]; simp
theorem ofSy_word (f : Flt) (h : maySy f = true) : ofSy (wordSy f) = f := by
  unfold ofSy; rw [if_pos (isSy_word f h), read_wordSy f h]
theorem wordSy_ne {f g : Flt} (hf : maySy f = true) (hg : maySy g = true) (hn : f ≠ g) : wordSy f ≠ wordSy g := by
  intro h
  apply hn
  rw [← read_wordSy f hf, h, read_wordSy g hg]
theorem bitF_offS {x : Fld} (h : okF x = true) (k : Nat) (hk : k < 64) (hm : (mskF x).getLsbD k = false) : (bitF x).getLsbD k = false := by
  have := bits_of _ _ k (bitF_in h)
  simp only [BitVec.getLsbD_and, BitVec.getLsbD_not, BitVec.getLsbD_zero, hk, decide_true, hm, Bool.not_false, Bool.and_true] at this
  exact this
/-- The bits of a fault's word. -/
theorem wordSy_bits (f : Flt) (h : maySy f = true) : wordSy f = 0#64 ||| bitF (numFl 0 3 f.k) ||| bitF (numFl 3 2 f.st) ||| bitF (numFl 5 2 f.lv) ||| bitF (bitFl 7 f.w) ||| bitF (numFl 8 12 f.p) := by
  unfold wordSy joinL layR
  rw [if_pos (fun i hi => by rw [nth_get (List.getElem?_eq_getElem hi)]; exact synL_ok f h _ (List.getElem_mem hi))]
  show (layFrom (nth (synL f)) 5 0 0#64 0#64).2.1 = _
  rw [layFrom_yes (by simp), layFrom_yes ?_, layFrom_yes ?_, layFrom_yes ?_, layFrom_yes ?_, layFrom_done]
  · rfl
  · show (0#64 ||| mskF (numFl 0 3 f.k) ||| mskF (numFl 3 2 f.st) ||| mskF (numFl 5 2 f.lv) ||| mskF (bitFl 7 f.w)) &&& mskF (numFl 8 12 f.p) = 0#64
    unfold mskF bitFl numFl
    simp only
    decide
  · show (0#64 ||| mskF (numFl 0 3 f.k) ||| mskF (numFl 3 2 f.st) ||| mskF (numFl 5 2 f.lv)) &&& mskF (bitFl 7 f.w) = 0#64
    unfold mskF bitFl numFl
    simp only
    decide
  · show (0#64 ||| mskF (numFl 0 3 f.k) ||| mskF (numFl 3 2 f.st)) &&& mskF (numFl 5 2 f.lv) = 0#64
    unfold mskF numFl
    simp only
    decide
  · show (0#64 ||| mskF (numFl 0 3 f.k)) &&& mskF (numFl 3 2 f.st) = 0#64
    unfold mskF numFl
    simp only
    decide
theorem synoff_masks : ∀ k : Fin 64, 20 ≤ k.val → (msk 3 <<< 0).getLsbD k = false ∧ (msk 2 <<< 3).getLsbD k = false ∧ (msk 2 <<< 5).getLsbD k = false ∧ (msk 1 <<< 7).getLsbD k = false ∧ (msk 12 <<< 8).getLsbD k = false := by decide +kernel
theorem wordSy_off (f : Flt) (h : maySy f = true) (k : Nat) (h0 : 20 ≤ k) (h1 : k < 64) : (wordSy f).getLsbD k = false := by
  obtain ⟨m0, m1, m2, m3, m4⟩ := synoff_masks ⟨k, h1⟩ h0
  have ok := synL_ok f h
  rw [wordSy_bits f h]
  simp only [BitVec.getLsbD_or, BitVec.getLsbD_zero, Bool.false_or]
  rw [bitF_offS (ok (numFl 0 3 f.k) (by simp [synL])) k h1 m0, bitF_offS (ok (numFl 3 2 f.st) (by simp [synL])) k h1 m1, bitF_offS (ok (numFl 5 2 f.lv) (by simp [synL])) k h1 m2,
    bitF_offS (ok (bitFl 7 f.w) (by simp [synL])) k h1 m3, bitF_offS (ok (numFl 8 12 f.p) (by simp [synL])) k h1 m4]
  rfl
theorem wordSy_shr (f : Flt) (h : maySy f = true) : wordSy f >>> 20 = 0#64 := by
  apply BitVec.eq_of_getLsbD_eq
  intro k hk
  rw [BitVec.getLsbD_ushiftRight, BitVec.getLsbD_zero]
  by_cases h1 : 20 + k < 64
  · exact wordSy_off f h _ (by omega) h1
  · exact BitVec.getLsbD_of_ge _ _ (by omega)
theorem wordSy_div (f : Flt) (h : maySy f = true) : u (wordSy f) / 1048576 = 0 := by
  have h1 := congrArg BitVec.toNat (wordSy_shr f h)
  rw [BitVec.toNat_ushiftRight, Nat.shiftRight_eq_div_pow] at h1
  have h2 : (wordSy f).toNat / 1048576 = 0 := h1
  unfold u
  omega
theorem wordSy_40 (f : Flt) (h : maySy f = true) : wordSy f ≠ 1099511627776#64 := by
  intro hw
  have := wordSy_shr f h
  rw [hw] at this
  revert this
  decide
/-- The faults that SynBack asks. -/
def backF (g : Int → Int) (k : Int) : Flt := ⟨k % 5, k / 5 % 3, k / 15 % 4, k / 60 % 2 == 1, g k⟩
theorem backF_may {g : Int → Int} (hg : ∀ k, 0 ≤ g k ∧ g k ≤ 4095) (k : Int) : maySy (backF g k) = true := by
  rw [maySy_iff]
  unfold backF
  refine ⟨⟨?_, ?_⟩, ⟨?_, ?_⟩, ⟨?_, ?_⟩, (hg k).1, (hg k).2⟩ <;> (simp only; omega)
theorem backF_ne (g : Int → Int) (k : Int) : backF g k ≠ backF g (k - 1) := by
  intro h
  have := congrArg Flt.k h
  unfold backF at this
  simp only at this
  omega
/-- What SynBack compares with. -/
def lastSy (g : Int → Int) (k : Int) : BitVec 64 := if k = 0 then 1099511627776#64 else wordSy (backF g (k - 1))
theorem lastSy_ne {g : Int → Int} (hg : ∀ k, 0 ≤ g k ∧ g k ≤ 4095) (k : Int) : wordSy (backF g k) ≠ lastSy g k := by
  unfold lastSy
  split
  · exact wordSy_40 _ (backF_may hg k)
  · exact wordSy_ne (backF_may hg k) (backF_may hg _) (backF_ne g k)
theorem lastSy_next (g : Int → Int) (k : Int) (h0 : 0 ≤ k) : lastSy g (k + 1) = wordSy (backF g k) := by
  unfold lastSy
  rw [if_neg (by omega), show k + 1 - 1 = k from by omega]
end Go.Proofs.Ytpelolokdmfbdaa
