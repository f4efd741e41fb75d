/- Descriptors, plainly: which may be, their words, and what a word is. -/
import Derived.Test.YtlflfpohglgopaaLy
set_option linter.all false
namespace Go.Proofs.Ytlflfpohglgopaa
open Go.ChangeShapes Go.WideShapes Go.ChangeAt Go.RowKit Go.Deep

/-- A descriptor. -/
structure Dsc where
  k : Int
  f : Int
  r : Bool
  w : Bool
  x : Bool
  a : Bool
  n : Bool
  s : Int
  o : Int
deriving DecidableEq

def dz : Dsc := ⟨0, 0, false, false, false, false, false, 0, 0⟩
def eqD (a b : Dsc) : Bool := decide (a = b)
theorem eqD_self (a : Dsc) : eqD a a = true := by simp [eqD]
theorem eqD_iff {a b : Dsc} : eqD a b = true ↔ a = b := by simp [eqD]
theorem eqD_no {a b : Dsc} : eqD a b = false ↔ a ≠ b := by simp [eqD]

def numB (n m : Int) : Bool := decide (0 ≤ n ∧ n ≤ m)
def placeB (st lv : Int) : Bool := decide ((st = 1 ∨ st = 2) ∧ 0 ≤ lv ∧ lv ≤ 3)
theorem numB_iff {n m : Int} : numB n m = true ↔ 0 ≤ n ∧ n ≤ m := by simp [numB]
theorem numB_no {n m : Int} : numB n m = false ↔ ¬ (0 ≤ n ∧ n ≤ m) := by simp [numB]
theorem placeB_iff {st lv : Int} : placeB st lv = true ↔ (st = 1 ∨ st = 2) ∧ 0 ≤ lv ∧ lv ≤ 3 := by simp [placeB]
theorem placeB_no {st lv : Int} : placeB st lv = false ↔ ¬ ((st = 1 ∨ st = 2) ∧ 0 ≤ lv ∧ lv ≤ 3) := by simp [placeB]

def cov (lv : Int) : Int := if lv = 0 then 512 else if lv = 1 then 64 else if lv = 2 then 8 else 1
theorem cov_pos (lv : Int) : 1 ≤ cov lv ∧ cov lv ≤ 512 := by unfold cov; split <;> (try split) <;> (try split) <;> omega

/-- May it be, of a stage and a level that are such? -/
def noneD (st : Int) (d : Dsc) : Bool := eqD d ⟨0, 0, false, false, false, false, false, 0, d.o⟩ && (decide (d.o = 0) || (decide (st = 2) && numB d.o 15))
def tableD (lv : Int) (d : Dsc) : Bool := eqD d ⟨1, d.f, false, false, false, false, false, 0, 0⟩ && (decide (lv ≠ 3) && numB d.f 4095)
def attrD (st : Int) (d : Dsc) : Bool := if st = 1 then d.r && decide (d.s = 0) else !d.n && numB d.s 15
def leafD (st lv : Int) (d : Dsc) : Bool := decide (lv ≠ 0) && (decide (d.o = 0) && (numB d.f 4095 && (decide (d.f.tmod (cov lv) = 0) && attrD st d)))
def mayD (st lv : Int) (d : Dsc) : Bool := if d.k = 0 then noneD st d else if d.k = 1 then tableD lv d else if d.k = 2 then leafD st lv d else false
def mayE (st lv : Int) (d : Dsc) : Bool := placeB st lv && mayD st lv d

def bitFl (at' : Int) (b : Bool) : Fld := ⟨at', 1, if b then 1#64 else 0#64⟩
def numFl (at' n v : Int) : Fld := ⟨at', n, BitVec.ofInt 64 v⟩
def headL (lv : Int) (d : Dsc) : List Fld := [bitFl 0 true, bitFl 1 (!decide (d.k = 2) || decide (lv = 3)), numFl 12 12 d.f]
def baseL (d : Dsc) : List Fld := [bitFl 10 d.a, bitFl 54 (!d.x)]
def oneL (d : Dsc) : List Fld := [bitFl 7 (!d.w), bitFl 11 d.n]
def twoL (d : Dsc) : List Fld := [bitFl 6 d.r, bitFl 7 d.w, numFl 55 4 d.s]
def attrL (st : Int) (d : Dsc) : List Fld := if st = 1 then baseL d ++ oneL d else baseL d ++ twoL d
def fieldsL (st lv : Int) (d : Dsc) : List Fld := if d.k = 0 then [numFl 4 4 d.o] else if d.k = 2 then headL lv d ++ attrL st d else headL lv d
def nth (L : List Fld) (j : Nat) : Fld := L.getD j default
def joinL (L : List Fld) : BitVec 64 × BitVec 64 × Int := layR (nth L) L.length
def wordD (st lv : Int) (d : Dsc) : BitVec 64 := (joinL (fieldsL st lv d)).2.1

def getN (v : BitVec 64) (a n : Int) : Int := u (v >>> a.toNat &&& msk n)
def flagW (v : BitVec 64) (a : Int) : Bool := decide (getN v a 1 = 1)
def kindD (lv : Int) (v : BitVec 64) : Int := if flagW v 0 = false then 0 else if flagW v 1 = true ∧ lv ≠ 3 then 1 else 2
def readD (st lv : Int) (v : BitVec 64) : Dsc :=
  if kindD lv v = 0 then ⟨0, 0, false, false, false, false, false, 0, getN v 4 4⟩
  else if kindD lv v = 1 then ⟨1, getN v 12 12, false, false, false, false, false, 0, 0⟩
  else if st = 1 then ⟨2, getN v 12 12, true, !flagW v 7, !flagW v 54, flagW v 10, flagW v 11, 0, 0⟩
  else ⟨2, getN v 12 12, flagW v 6, flagW v 7, !flagW v 54, flagW v 10, false, getN v 55 4, 0⟩
def ofD (st lv : Int) (v : BitVec 64) : Dsc := if mayD st lv (readD st lv v) = true ∧ wordD st lv (readD st lv v) = v then readD st lv v else dz

/-! What was joined is got. -/
theorem bitF_in {x : Fld} (h : okF x = true) : bitF x &&& ~~~ (mskF x) = 0#64 := by
  obtain ⟨h0, h1, h2⟩ := okF_ok h
  unfold okF at h
  simp only [Bool.and_eq_true, decide_eq_true_eq] at h
  have hr := (room_iff x.v x.n (by omega) (by omega)).2 h.2
  apply BitVec.eq_of_getLsbD_eq
  intro i hi
  have hb := congrArg (fun y : BitVec 64 => y.getLsbD (i - x.a.toNat)) hr
  simp only [BitVec.getLsbD_and, BitVec.getLsbD_not, BitVec.getLsbD_zero] at hb
  unfold bitF mskF
  simp only [BitVec.getLsbD_and, BitVec.getLsbD_not, BitVec.getLsbD_zero, BitVec.getLsbD_shiftLeft]
  by_cases hlt : i < x.a.toNat
  · simp [hlt]
  · have hd : decide (i - x.a.toNat < 64) = true := by simp; omega
    rw [hd] at hb
    simp only [hlt, hi, decide_true, decide_false, Bool.not_false, Bool.true_and]
    simpa using hb

theorem bits_of (p q : BitVec 64) (i : Nat) (h : p = q) : p.getLsbD i = q.getLsbD i := by rw [h]

theorem layFrom_get (X : Nat → Fld) : ∀ (m k : Nat) (h b : BitVec 64), b &&& ~~~ h = 0#64 → (∀ j, k ≤ j → j < k + m → okF (X j) = true) → (layFrom X m k h b).2.2 = 0 →
    (layFrom X m k h b).2.1 &&& h = b ∧ ∀ j, k ≤ j → j < k + m → (layFrom X m k h b).2.1 &&& mskF (X j) = bitF (X j) := by
  intro m
  induction m with
  | zero =>
    intro k h b hb _ _
    refine ⟨?_, fun j h1 h2 => absurd h2 (by omega)⟩
    rw [layFrom_done]
    apply BitVec.eq_of_getLsbD_eq
    intro i hi
    have := bits_of _ _ i hb
    simp only [BitVec.getLsbD_and, BitVec.getLsbD_not, BitVec.getLsbD_zero, hi, decide_true, Bool.true_and] at this ⊢
    revert this
    cases b.getLsbD i <;> cases h.getLsbD i <;> simp
  | succ m ih =>
    intro k h b hb hok he
    by_cases ht : h &&& mskF (X k) = 0#64
    · rw [layFrom_yes ht] at he ⊢
      have hin := bitF_in (hok k (by omega) (by omega))
      have hb' : (b ||| bitF (X k)) &&& ~~~ (h ||| mskF (X k)) = 0#64 := by
        apply BitVec.eq_of_getLsbD_eq
        intro i hi
        have h1 := bits_of _ _ i hb
        have h2 := bits_of _ _ i hin
        simp only [BitVec.getLsbD_and, BitVec.getLsbD_or, BitVec.getLsbD_not, BitVec.getLsbD_zero, hi, decide_true, Bool.true_and] at h1 h2 ⊢
        revert h1 h2
        cases b.getLsbD i <;> cases h.getLsbD i <;> cases (bitF (X k)).getLsbD i <;> cases (mskF (X k)).getLsbD i <;> simp
      obtain ⟨g1, g2⟩ := ih (k + 1) _ _ hb' (fun j h1 h2 => hok j (by omega) (by omega)) he
      generalize (layFrom X m (k + 1) (h ||| mskF (X k)) (b ||| bitF (X k))).2.1 = B at g1 g2 ⊢
      refine ⟨?_, fun j hj1 hj2 => ?_⟩
      · apply BitVec.eq_of_getLsbD_eq
        intro i hi
        have h1 := bits_of _ _ i hb
        have h2 := bits_of _ _ i hin
        have h3 := bits_of _ _ i g1
        have h4 := bits_of _ _ i ht
        simp only [BitVec.getLsbD_and, BitVec.getLsbD_or, BitVec.getLsbD_not, BitVec.getLsbD_zero, hi, decide_true, Bool.true_and] at h1 h2 h3 h4 ⊢
        revert h1 h2 h3 h4
        cases b.getLsbD i <;> cases h.getLsbD i <;> cases (bitF (X k)).getLsbD i <;> cases (mskF (X k)).getLsbD i <;> cases B.getLsbD i <;> simp
      · by_cases hjk : j = k
        · subst hjk
          apply BitVec.eq_of_getLsbD_eq
          intro i hi
          have h1 := bits_of _ _ i hb
          have h2 := bits_of _ _ i hin
          have h3 := bits_of _ _ i g1
          have h4 := bits_of _ _ i ht
          simp only [BitVec.getLsbD_and, BitVec.getLsbD_or, BitVec.getLsbD_not, BitVec.getLsbD_zero, hi, decide_true, Bool.true_and] at h1 h2 h3 h4 ⊢
          revert h1 h2 h3 h4
          cases b.getLsbD i <;> cases h.getLsbD i <;> cases (bitF (X j)).getLsbD i <;> cases (mskF (X j)).getLsbD i <;> cases B.getLsbD i <;> simp
        · exact g2 j (by omega) (by omega)
    · rw [layFrom_no (by omega) ht] at he
      simp at he

theorem got_field (B : BitVec 64) (x : Fld) (h : okF x = true) (hb : B &&& mskF x = bitF x) : B >>> x.a.toNat &&& msk x.n = x.v := by
  obtain ⟨h0, h1, h2⟩ := okF_ok h
  unfold okF at h
  simp only [Bool.and_eq_true, decide_eq_true_eq] at h
  have hr := (room_iff x.v x.n (by omega) (by omega)).2 h.2
  apply BitVec.eq_of_getLsbD_eq
  intro i hi
  have h3 := bits_of _ _ i hr
  have h4 := bits_of _ _ (x.a.toNat + i) hb
  unfold mskF bitF at h4
  simp only [BitVec.getLsbD_and, BitVec.getLsbD_not, BitVec.getLsbD_zero, BitVec.getLsbD_ushiftRight, BitVec.getLsbD_shiftLeft, hi, decide_true, Bool.true_and] at h3 h4 ⊢
  rw [msk_bit x.n _ (by omega) (by omega)] at h3 ⊢
  rw [show x.a.toNat + i - x.a.toNat = i from by omega, msk_bit x.n _ (by omega) (by omega)] at h4
  by_cases hin : i < x.n.toNat
  · have e1 : decide (x.a.toNat + i < 64) = true := by simp; omega
    have e2 : decide (x.a.toNat + i < x.a.toNat) = false := decide_eq_false (by omega)
    rw [e1, e2] at h4
    simp only [hin, decide_true, Bool.and_true, Bool.not_false, Bool.true_and] at h4 ⊢
    exact h4
  · simp only [hin, decide_false, Bool.and_false, Bool.not_false, Bool.and_true] at h3 ⊢
    exact h3.symm

theorem join_get (L : List Fld) (hok : ∀ j, j < L.length → okF (nth L j) = true) (he : (layAll (nth L) L.length).2.2 = 0) (j : Nat) (hj : j < L.length) :
    (joinL L).2.1 >>> (nth L j).a.toNat &&& msk (nth L j).n = (nth L j).v := by
  unfold joinL layR
  rw [if_pos hok]
  have := (layFrom_get (nth L) L.length 0 0#64 0#64 (by decide) (fun j _ h => hok j (by omega)) he).2 j (by omega) (by omega)
  exact got_field _ _ (hok j hj) this

def posF (x : Fld) : Int × Int := (x.a, x.n)
def freeP : List (Int × Int) → BitVec 64 → Bool
  | [], _ => true
  | p :: P, h => decide (h &&& (msk p.2 <<< p.1.toNat) = 0#64) && freeP P (h ||| (msk p.2 <<< p.1.toNat))

theorem nth_drop {L M : List Fld} {k : Nat} {x : Fld} (h : L.drop k = x :: M) : nth L k = x := by
  unfold nth
  rw [List.getD_eq_getElem?_getD, ← Nat.add_zero k, ← List.getElem?_drop, h]
  rfl

theorem layFrom_free (L : List Fld) : ∀ (M : List Fld) (k : Nat) (h b : BitVec 64), L.drop k = M → freeP (M.map posF) h = true → (layFrom (nth L) M.length k h b).2.2 = 0 := by
  intro M
  induction M with
  | nil => intro k h b _ _; rfl
  | cons x M ih =>
    intro k h b hd hf
    simp only [List.map_cons, freeP, Bool.and_eq_true, decide_eq_true_eq] at hf
    have hx := nth_drop hd
    rw [List.length_cons, layFrom_yes (by rw [hx]; exact hf.1), hx]
    refine ih (k + 1) _ _ ?_ hf.2
    rw [← List.drop_drop, hd]; rfl

theorem nth_get {L : List Fld} {j : Nat} {x : Fld} (h : L[j]? = some x) : nth L j = x := by
  unfold nth; rw [List.getD_eq_getElem?_getD, h]; rfl

theorem getN_join (L : List Fld) (hok : ∀ x ∈ L, okF x = true) (hf : freeP (L.map posF) 0#64 = true) (j : Nat) (x : Fld) (hx : L[j]? = some x) : getN (joinL L).2.1 x.a x.n = u x.v := by
  have hlt : j < L.length := (List.getElem?_eq_some_iff.1 hx).1
  have := join_get L (fun i hi => hok _ (by rw [nth_get (List.getElem?_eq_getElem hi)]; exact List.getElem_mem hi)) (layFrom_free L L 0 _ _ rfl hf) j hlt
  rw [nth_get hx] at this
  unfold getN
  rw [this]

theorem u_int {v : Int} (h0 : 0 ≤ v) (h1 : v < 9223372036854775808) : u (BitVec.ofInt 64 v) = v := by
  unfold u
  rw [BitVec.toNat_ofInt]
  have : v % ((2 ^ 64 : Nat) : Int) = v := Int.emod_eq_of_lt h0 (by omega)
  rw [this]; omega
theorem u_conv (v : Int) : IntKind.u64.wrap v = u (BitVec.ofInt 64 v) := by
  unfold u
  rw [BitVec.toNat_ofInt, IntKind.wrap_u64]
  have := Int.emod_nonneg v (show (18446744073709551616 : Int) ≠ 0 from by decide)
  show v % 18446744073709551616 = ((v % 18446744073709551616).toNat : Int)
  omega
theorem ok_bit (p : Int) (b : Bool) (h0 : 0 ≤ p) (h1 : p ≤ 63) : okF (bitFl p b) = true := by
  unfold okF bitFl okB
  simp only [Bool.and_eq_true, decide_eq_true_eq]
  refine ⟨by omega, ?_⟩
  cases b <;> decide
theorem ok_num (p n v : Int) (h0 : 0 ≤ p) (hn : 1 ≤ n) (h1 : p + n ≤ 64) (h2 : 0 ≤ v) (h3 : v < 4096) (h4 : v ≤ u (msk n)) : okF (numFl p n v) = true := by
  unfold okF numFl okB
  simp only [Bool.and_eq_true, decide_eq_true_eq]
  refine ⟨by omega, ?_⟩
  rw [u_int h2 (by omega)]; exact h4
/-- All fields of a word are got. -/
def Gets (B : BitVec 64) (L : List Fld) : Prop := ∀ (j : Nat) (x : Fld), L[j]? = some x → getN B x.a x.n = u x.v
theorem Gets.flag {B : BitVec 64} {L : List Fld} (h : Gets B L) (j : Nat) (p : Int) (b : Bool) (hx : L[j]? = some (bitFl p b)) : flagW B p = b := by
  have h1 : getN B p 1 = u (if b then 1#64 else 0#64) := h j _ hx
  unfold flagW
  rw [h1]
  cases b <;> decide
theorem Gets.num {B : BitVec 64} {L : List Fld} (h : Gets B L) (j : Nat) (p n v : Int) (hx : L[j]? = some (numFl p n v)) (h0 : 0 ≤ v) (h1 : v < 4096) : getN B p n = v := by
  have h2 : getN B p n = u (BitVec.ofInt 64 v) := h j _ hx
  rw [h2, u_int h0 (by omega)]
theorem gets_join (L : List Fld) (hok : ∀ x ∈ L, okF x = true) (hf : freeP (L.map posF) 0#64 = true) : Gets (joinL L).2.1 L := getN_join L hok hf

/-- What a descriptor's word is read as. -/
theorem read_word (st lv : Int) (d : Dsc) (hp : placeB st lv = true) (hm : mayD st lv d = true) : readD st lv (wordD st lv d) = d := by
  rw [placeB_iff] at hp
  obtain ⟨hst, hl0, hl3⟩ := hp
  obtain ⟨k, f, r, w, x, a, n, s, o⟩ := d
  unfold mayD at hm
  simp only at hm
  by_cases k0 : k = 0
  · subst k0
    simp only [if_true, noneD, Bool.and_eq_true, eqD_iff, Dsc.mk.injEq, Bool.or_eq_true, decide_eq_true_eq, numB_iff] at hm
    obtain ⟨⟨_, rfl, rfl, rfl, rfl, rfl, rfl, rfl, _⟩, ho⟩ := hm
    have ho' : 0 ≤ o ∧ o ≤ 15 := by omega
    have hok : okF (numFl 4 4 o) = true := ok_num 4 4 o (by omega) (by omega) (by omega) (by omega) (by omega) (by rw [show u (msk 4) = 15 from by decide]; omega)
    have hw : wordD st lv ⟨0, 0, false, false, false, false, false, 0, o⟩ = BitVec.ofInt 64 o <<< 4 := by
      unfold wordD fieldsL joinL
      simp only [if_true]
      rw [show nth [numFl 4 4 o] = nth [numFl 4 4 o] from rfl]
      unfold layR
      rw [if_pos (fun j hj => by
        have : j = 0 := by simp at hj; omega
        subst this; exact hok)]
      show (layFrom (nth [numFl 4 4 o]) 1 0 0#64 0#64).2.1 = _
      rw [layFrom_yes (by simp), layFrom_done]
      simp [nth, numFl, bitF]
    have hg : getN (BitVec.ofInt 64 o <<< 4) 4 4 = o := by
      have := (gets_join [numFl 4 4 o] (by simpa using hok) (by simp only [List.map_cons, List.map_nil, posF, numFl]; decide)).num 0 4 4 o rfl (by omega) (by omega)
      unfold wordD fieldsL at hw
      simp only [if_true] at hw
      rw [hw] at this
      exact this
    have h0 : flagW (BitVec.ofInt 64 o <<< 4) 0 = false := by
      unfold flagW getN
      rw [decide_eq_false_iff_not, show (1 : Int) = u 1#64 from by decide, u_inj]
      intro h
      have := bits_of _ _ 0 h
      simp at this
    rw [hw]
    unfold readD kindD
    rw [if_pos h0, if_pos rfl, hg]
  · rw [if_neg k0] at hm
    by_cases k1 : k = 1
    · subst k1
      simp only [if_true, tableD, Bool.and_eq_true, eqD_iff, Dsc.mk.injEq, decide_eq_true_eq, numB_iff] at hm
      obtain ⟨⟨_, _, rfl, rfl, rfl, rfl, rfl, rfl, rfl⟩, h3, hf0, hf1⟩ := hm
      have hL : fieldsL st lv ⟨1, f, false, false, false, false, false, 0, 0⟩ = [bitFl 0 true, bitFl 1 true, numFl 12 12 f] := by
        simp [fieldsL, headL]
      have hok : ∀ y ∈ [bitFl 0 true, bitFl 1 true, numFl 12 12 f], okF y = true := by
        intro y hy
        simp only [List.mem_cons, List.not_mem_nil, or_false] at hy
        rcases hy with rfl | rfl | rfl
        · exact ok_bit _ _ (by omega) (by omega)
        · exact ok_bit _ _ (by omega) (by omega)
        · exact ok_num _ _ _ (by omega) (by omega) (by omega) hf0 (by omega) (by rw [show u (msk 12) = 4095 from by decide]; omega)
      have G := gets_join _ hok (by simp only [List.map_cons, List.map_nil, posF, bitFl, numFl]; decide)
      have g0 := G.flag 0 0 true rfl
      have g1 := G.flag 1 1 true rfl
      have g2 := G.num 2 12 12 f rfl (by omega) (by omega)
      clear G
      have hw : wordD st lv ⟨1, f, false, false, false, false, false, 0, 0⟩ = (joinL [bitFl 0 true, bitFl 1 true, numFl 12 12 f]).2.1 := by rw [wordD, hL]
      rw [hw]
      generalize (joinL [bitFl 0 true, bitFl 1 true, numFl 12 12 f]).2.1 = B at g0 g1 g2
      have hk : kindD lv B = 1 := by
        unfold kindD
        rw [if_neg (by rw [g0]; decide), if_pos ⟨g1, h3⟩]
      unfold readD
      rw [hk, if_neg (by decide), if_pos rfl]
      rw [g2]
    · rw [if_neg k1] at hm
      by_cases k2 : k = 2
      · subst k2
        simp only [if_true, leafD, Bool.and_eq_true, decide_eq_true_eq, numB_iff] at hm
        obtain ⟨hl, rfl, ⟨hf0, hf1⟩, _, ha⟩ := hm
        by_cases hs : st = 1
        · subst hs
          simp only [attrD, if_true, Bool.and_eq_true, decide_eq_true_eq] at ha
          obtain ⟨rfl, rfl⟩ := ha
          have hL : fieldsL 1 lv ⟨2, f, true, w, x, a, n, 0, 0⟩ = [bitFl 0 true, bitFl 1 (decide (lv = 3)), numFl 12 12 f, bitFl 10 a, bitFl 54 (!x), bitFl 7 (!w), bitFl 11 n] := by
            simp [fieldsL, headL, attrL, baseL, oneL]
          have hok : ∀ y ∈ [bitFl 0 true, bitFl 1 (decide (lv = 3)), numFl 12 12 f, bitFl 10 a, bitFl 54 (!x), bitFl 7 (!w), bitFl 11 n], okF y = true := by
            intro y hy
            simp only [List.mem_cons, List.not_mem_nil, or_false] at hy
            rcases hy with rfl | rfl | rfl | rfl | rfl | rfl | rfl
            all_goals first | exact ok_bit _ _ (by omega) (by omega) | exact ok_num _ _ _ (by omega) (by omega) (by omega) hf0 (by omega) (by rw [show u (msk 12) = 4095 from by decide]; omega)
          have G := gets_join _ hok (by simp only [List.map_cons, List.map_nil, posF, bitFl, numFl]; decide)
          have g0 := G.flag 0 0 true rfl
          have g1 := G.flag 1 1 (decide (lv = 3)) rfl
          have g2 := G.num 2 12 12 f rfl (by omega) (by omega)
          have g3 := G.flag 3 10 a rfl
          have g4 := G.flag 4 54 (!x) rfl
          have g5 := G.flag 5 7 (!w) rfl
          have g6 := G.flag 6 11 n rfl
          clear G
          have hw : wordD 1 lv ⟨2, f, true, w, x, a, n, 0, 0⟩ = (joinL [bitFl 0 true, bitFl 1 (decide (lv = 3)), numFl 12 12 f, bitFl 10 a, bitFl 54 (!x), bitFl 7 (!w), bitFl 11 n]).2.1 := by rw [wordD, hL]
          rw [hw]
          generalize (joinL [bitFl 0 true, bitFl 1 (decide (lv = 3)), numFl 12 12 f, bitFl 10 a, bitFl 54 (!x), bitFl 7 (!w), bitFl 11 n]).2.1 = B at g0 g1 g2 g3 g4 g5 g6
          have hk : kindD lv B = 2 := by
            unfold kindD
            rw [if_neg (by rw [g0]; decide), if_neg (fun h => h.2 (of_decide_eq_true (g1.symm.trans h.1)))]
          unfold readD
          rw [hk, if_neg (by decide), if_neg (by decide), if_pos rfl]
          simp only [g2, g3, g4, g5, g6, Bool.not_not]
        · obtain rfl : st = 2 := by omega
          simp only [attrD, show ((2 : Int) = 1) = False from by decide, if_false, Bool.and_eq_true, Bool.not_eq_true', numB_iff] at ha
          obtain ⟨rfl, hs0, hs1⟩ := ha
          have hL : fieldsL 2 lv ⟨2, f, r, w, x, a, false, s, 0⟩ = [bitFl 0 true, bitFl 1 (decide (lv = 3)), numFl 12 12 f, bitFl 10 a, bitFl 54 (!x), bitFl 6 r, bitFl 7 w, numFl 55 4 s] := by
            simp [fieldsL, headL, attrL, baseL, twoL]
          have hok : ∀ y ∈ [bitFl 0 true, bitFl 1 (decide (lv = 3)), numFl 12 12 f, bitFl 10 a, bitFl 54 (!x), bitFl 6 r, bitFl 7 w, numFl 55 4 s], okF y = true := by
            intro y hy
            simp only [List.mem_cons, List.not_mem_nil, or_false] at hy
            rcases hy with rfl | rfl | rfl | rfl | rfl | rfl | rfl | rfl
            all_goals first | exact ok_bit _ _ (by omega) (by omega) | exact ok_num _ _ _ (by omega) (by omega) (by omega) hf0 (by omega) (by rw [show u (msk 12) = 4095 from by decide]; omega) | exact ok_num _ _ _ (by omega) (by omega) (by omega) hs0 (by omega) (by rw [show u (msk 4) = 15 from by decide]; omega)
          have G := gets_join _ hok (by simp only [List.map_cons, List.map_nil, posF, bitFl, numFl]; decide)
          have g0 := G.flag 0 0 true rfl
          have g1 := G.flag 1 1 (decide (lv = 3)) rfl
          have g2 := G.num 2 12 12 f rfl (by omega) (by omega)
          have g3 := G.flag 3 10 a rfl
          have g4 := G.flag 4 54 (!x) rfl
          have g5 := G.flag 5 6 r rfl
          have g6 := G.flag 6 7 w rfl
          have g7 := G.num 7 55 4 s rfl (by omega) (by omega)
          clear G
          have hw : wordD 2 lv ⟨2, f, r, w, x, a, false, s, 0⟩ = (joinL [bitFl 0 true, bitFl 1 (decide (lv = 3)), numFl 12 12 f, bitFl 10 a, bitFl 54 (!x), bitFl 6 r, bitFl 7 w, numFl 55 4 s]).2.1 := by rw [wordD, hL]
          rw [hw]
          generalize (joinL [bitFl 0 true, bitFl 1 (decide (lv = 3)), numFl 12 12 f, bitFl 10 a, bitFl 54 (!x), bitFl 6 r, bitFl 7 w, numFl 55 4 s]).2.1 = B at g0 g1 g2 g3 g4 g5 g6 g7
          have hk : kindD lv B = 2 := by
            unfold kindD
            rw [if_neg (by rw [g0]; decide), if_neg (fun h => h.2 (of_decide_eq_true (g1.symm.trans h.1)))]
          unfold readD
          rw [hk, if_neg (by decide), if_neg (by decide), if_neg (by decide)]
          simp only [g2, g3, g4, g5, g6, g7, Bool.not_not]
      · rw [if_neg k2] at hm; cases hm

theorem of_word (st lv : Int) (d : Dsc) (hp : placeB st lv = true) (hm : mayD st lv d = true) : ofD st lv (wordD st lv d) = d := by
  have h := read_word st lv d hp hm
  unfold ofD
  rw [h, if_pos ⟨hm, rfl⟩]

/-- What a word is read as may be, and has that word, if it is not the empty one. -/
theorem of_cases (st lv : Int) (v : BitVec 64) : ofD st lv v = dz ∨ (mayD st lv (ofD st lv v) = true ∧ wordD st lv (ofD st lv v) = v) := by
  unfold ofD
  split
  · rename_i h; exact .inr h
  · exact .inl rfl
theorem may_dz (st lv : Int) : mayD st lv dz = true := by simp [mayD, dz, noneD, eqD]
end Go.Proofs.Ytlflfpohglgopaa
