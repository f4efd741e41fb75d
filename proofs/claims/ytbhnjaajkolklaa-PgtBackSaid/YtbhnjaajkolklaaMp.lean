/- Stage 16: PgtBack: the tables plainly. -/
import Derived.Test.YtbhnjaajkolklaaMk
set_option linter.all false
namespace Go.Proofs.Ytbhnjaajkolklaa
open Go.ChangeShapes Go.WideShapes Go.ChangeAt Go.RowKit Go.Deep

def leafB (h : Int) : Dsc := ⟨2, h, true, false, false, true, false, 0, 0⟩
/-- How many of the third tables there are. -/
def cntT (t : Nat → Nat) : Nat := (if t 0 = 0 then 0 else 1) + (if t 1 = 0 then 0 else 1) + (if t 2 = 0 then 0 else 1) + (if t 3 = 0 then 0 else 1) + (if t 4 = 0 then 0 else 1) + (if t 5 = 0 then 0 else 1) + (if t 6 = 0 then 0 else 1) + (if t 7 = 0 then 0 else 1)
def updT {A : Type} (t : Nat → A) (i : Nat) (v : A) : Nat → A := fun j => if j = i then v else t j
theorem cntT_new {t : Nat → Nat} {i m : Nat} (hi : i < 8) (h0 : t i = 0) (hm : m ≠ 0) : cntT (updT t i m) = cntT t + 1 := by
  have h : i = 0 ∨ i = 1 ∨ i = 2 ∨ i = 3 ∨ i = 4 ∨ i = 5 ∨ i = 6 ∨ i = 7 := by omega
  unfold cntT updT
  rcases h with h | h | h | h | h | h | h | h <;> subst h <;> simp [h0, hm] <;> omega
theorem cntT_le {t : Nat → Nat} {i : Nat} (hi : i < 8) (h0 : t i = 0) : cntT t ≤ 7 := by
  have h : i = 0 ∨ i = 1 ∨ i = 2 ∨ i = 3 ∨ i = 4 ∨ i = 5 ∨ i = 6 ∨ i = 7 := by omega
  unfold cntT
  rcases h with h | h | h | h | h | h | h | h <;> subst h <;> simp only [h0, if_true] <;> (repeat' split) <;> omega
theorem cntT_8 (t : Nat → Nat) : cntT t ≤ 8 := by
  unfold cntT
  (repeat' split) <;> omega
def frF (m : Nat) : List Int := (List.range' m (16 - m)).map fun (k : Nat) => (k : Int)
theorem frF_mem {m : Nat} {f : Int} (h : f ∈ frF m) : (m : Int) ≤ f ∧ f ≤ 15 := by
  unfold frF at h
  simp only [List.mem_map, List.mem_range'_1] at h
  obtain ⟨k, hk, rfl⟩ := h
  omega
theorem frF_nodup (m : Nat) : (frF m).Nodup := by
  unfold frF
  unfold List.Nodup
  rw [List.pairwise_map]
  exact (List.nodup_range' (s := m) (n := 16 - m)).imp fun h e => h (Int.ofNat_inj.1 e)
theorem frF_cons {m : Nat} (h : m ≤ 15) : frF m = (m : Int) :: frF (m + 1) := by
  unfold frF
  rw [show 16 - m = (16 - (m + 1)) + 1 by omega, List.range'_succ]
  rfl
theorem frF_len (m : Nat) : (frF m).length = 16 - m := by unfold frF; simp
theorem of_t0 : ofD 2 0 (wordD 2 0 (tabD 1)) = tabD 1 := by decide +kernel
theorem of_t1 : ofD 2 1 (wordD 2 1 (tabD 2)) = tabD 2 := by decide +kernel
theorem of_z0 : ofD 2 0 0#64 = dz := by decide +kernel
theorem of_z2 : ofD 2 2 0#64 = dz := by decide +kernel
theorem of_z3 : ofD 2 3 0#64 = dz := by decide +kernel
theorem of_n3 : ofD 2 3 (wordD 2 3 (noteD 3)) = noteD 3 := by decide +kernel
theorem of_t2 : ∀ f : Nat, f < 16 → ofD 2 2 (wordD 2 2 (tabD (f : Int))) = tabD (f : Int) := by decide +kernel
theorem of_l3 : ∀ f : Nat, f < 61 → ofD 2 3 (wordD 2 3 (leafB (f : Int))) = leafB (f : Int) := by decide +kernel
theorem leafB_may : ∀ f : Nat, f < 61 → mayE 2 3 (leafB (f : Int)) = true := by decide +kernel
theorem note_may : mayE 2 3 (noteD 3) = true := by decide +kernel
/-- The tables of PgtBack, once the first page was mapped: words X, frames H of the pages, third tables t, m: the first frame that is free. -/
structure BkT (X : Nat → BitVec 64) (H : Nat → Nat) (t : Nat → Nat) (m : Nat) : Prop where
  r : X 0 = wordD 2 0 (tabD 1)
  s : X 8 = wordD 2 1 (tabD 2)
  T : ∀ i, i < 8 → X (16 + i) = if t i = 0 then 0#64 else wordD 2 2 (tabD ((t i : Nat) : Int))
  tb : ∀ i, i < 8 → t i ≠ 0 → 3 ≤ t i ∧ t i < m
  inj : ∀ i k, i < 8 → k < 8 → t i ≠ 0 → t i = t k → i = k
  lf : ∀ i j, i < 8 → j < 8 → t i ≠ 0 → (1 ≤ H (8 * i + j) ∧ H (8 * i + j) ≤ 60 ∧ X (t i * 8 + j) = wordD 2 3 (leafB ((H (8 * i + j) : Nat) : Int))) ∨ (H (8 * i + j) = 0 ∧ (X (t i * 8 + j) = 0#64 ∨ X (t i * 8 + j) = wordD 2 3 (noteD 3)))
  no : ∀ i j, i < 8 → j < 8 → t i = 0 → H (8 * i + j) = 0
  cn : m = 3 + cntT t
def Bk (X : Nat → BitVec 64) (H : Nat → Nat) (F : List Int) : Prop := ((∀ k, k < 192 → X k = 0#64) ∧ (∀ k, k < 64 → H k = 0) ∧ F = frF 1) ∨ ∃ t m, BkT X H t m ∧ F = frF m
theorem has192 {f : Int} (h0 : 0 ≤ f) (h1 : f < 24) : hasB 192 f = true := by
  unfold hasB framesB
  rw [show okM 192 = true from by decide +kernel, if_pos rfl]
  simp only [Bool.and_eq_true, decide_eq_true_eq]
  omega
theorem mayW192 {k : Nat} (h : k < 64) : mayW 192 (k : Int) = true := by
  unfold mayW
  rw [show okM 192 = true from by decide +kernel, numB_iff.2 ⟨by omega, by omega⟩]
  rfl
theorem idx0 {i j : Nat} (hi : i < 8) (hj : j < 8) : idxI 0 ((8 * i + j : Nat) : Int) = 0 := by unfold idxI cov; simp only [if_true]; omega
theorem idx1 {i j : Nat} (hi : i < 8) (hj : j < 8) : idxI 1 ((8 * i + j : Nat) : Int) = 0 := by unfold idxI cov; rw [if_neg (by decide), if_pos rfl]; omega
theorem idx2 {i j : Nat} (hi : i < 8) (hj : j < 8) : idxI 2 ((8 * i + j : Nat) : Int) = i := by unfold idxI cov; rw [if_neg (by decide), if_neg (by decide), if_pos rfl]; omega
theorem idx3 {i j : Nat} (hi : i < 8) (hj : j < 8) : idxI 3 ((8 * i + j : Nat) : Int) = j := by unfold idxI cov; rw [if_neg (by decide), if_neg (by decide), if_neg (by decide)]; omega
/-- Where the walk of a page ends. -/
theorem walk_none {X : Nat → BitVec 64} {i j : Nat} (hi : i < 8) (hj : j < 8) (h : X 0 = 0#64) : wayA 192 X 0 ((8 * i + j : Nat) : Int) 3 = ⟨dz, 0, 0, [0], 0⟩ := by
  have e : tblD X 2 0 0 ((8 * i + j : Nat) : Int) = dz := by unfold tblD; rw [idx0 hi hj, show ((0 : Int) * 8 + 0).toNat = 0 from rfl, h, of_z0]
  unfold wayA wayD
  rw [if_pos (mayW192 (by omega)), wayS_end (has192 (by decide) (by decide)) (by rw [e]; decide), e]
  rfl
theorem walk_two {X : Nat → BitVec 64} {H : Nat → Nat} {t : Nat → Nat} {m i j : Nat} (h : BkT X H t m) (hi : i < 8) (hj : j < 8) (h0 : t i = 0) : wayA 192 X 0 ((8 * i + j : Nat) : Int) 3 = ⟨dz, 2, 2, [0, 1, 2], 0⟩ := by
  have e0 : tblD X 2 0 0 ((8 * i + j : Nat) : Int) = tabD 1 := by unfold tblD; rw [idx0 hi hj, show ((0 : Int) * 8 + 0).toNat = 0 from rfl, h.r, of_t0]
  have e1 : tblD X 2 1 1 ((8 * i + j : Nat) : Int) = tabD 2 := by unfold tblD; rw [idx1 hi hj, show ((1 : Int) * 8 + 0).toNat = 8 from rfl, h.s, of_t1]
  have e2 : tblD X 2 2 2 ((8 * i + j : Nat) : Int) = dz := by unfold tblD; rw [idx2 hi hj, show ((2 : Int) * 8 + (i : Int)).toNat = 16 + i by omega, h.T i hi, if_pos h0, of_z2]
  unfold wayA wayD
  rw [if_pos (mayW192 (by omega)), wayS_on (has192 (by decide) (by decide)) (by rw [e0]; decide), e0]
  simp only [tabD]
  rw [wayS_on (has192 (by decide) (by decide)) (by rw [show (0 : Int) + 1 = 1 from rfl, e1]; decide), show (0 : Int) + 1 = 1 from rfl, e1]
  simp only [tabD]
  rw [wayS_end (has192 (by decide) (by decide)) (by rw [show (1 : Int) + 1 = 2 from rfl, e2]; decide), show (1 : Int) + 1 = 2 from rfl, e2]
  rfl
theorem walk_three {X : Nat → BitVec 64} {H : Nat → Nat} {t : Nat → Nat} {m i j : Nat} (h : BkT X H t m) (hi : i < 8) (hj : j < 8) (h0 : t i ≠ 0) : wayA 192 X 0 ((8 * i + j : Nat) : Int) 3 = ⟨ofD 2 3 (X (t i * 8 + j)), 3, ((t i : Nat) : Int), [0, 1, 2, ((t i : Nat) : Int)], 0⟩ := by
  have hm : m ≤ 11 := by have := h.cn; have := cntT_8 t; omega
  have ht := h.tb i hi h0
  have e0 : tblD X 2 0 0 ((8 * i + j : Nat) : Int) = tabD 1 := by unfold tblD; rw [idx0 hi hj, show ((0 : Int) * 8 + 0).toNat = 0 from rfl, h.r, of_t0]
  have e1 : tblD X 2 1 1 ((8 * i + j : Nat) : Int) = tabD 2 := by unfold tblD; rw [idx1 hi hj, show ((1 : Int) * 8 + 0).toNat = 8 from rfl, h.s, of_t1]
  have e2 : tblD X 2 2 2 ((8 * i + j : Nat) : Int) = tabD ((t i : Nat) : Int) := by unfold tblD; rw [idx2 hi hj, show ((2 : Int) * 8 + (i : Int)).toNat = 16 + i by omega, h.T i hi, if_neg h0, of_t2 _ (by omega)]
  have e3 : tblD X 2 3 ((t i : Nat) : Int) ((8 * i + j : Nat) : Int) = ofD 2 3 (X (t i * 8 + j)) := by unfold tblD; rw [idx3 hi hj, show (((t i : Nat) : Int) * 8 + (j : Int)).toNat = t i * 8 + j by omega]
  unfold wayA wayD
  rw [if_pos (mayW192 (by omega)), wayS_on (has192 (by decide) (by decide)) (by rw [e0]; decide), e0]
  simp only [tabD]
  rw [wayS_on (has192 (by decide) (by decide)) (by rw [show (0 : Int) + 1 = 1 from rfl, e1]; decide), show (0 : Int) + 1 = 1 from rfl, e1]
  simp only [tabD]
  rw [wayS_on (has192 (by decide) (by decide)) (by rw [show (1 : Int) + 1 = 2 from rfl, e2]; exact ⟨rfl, by decide⟩), show (1 : Int) + 1 = 2 from rfl, e2]
  simp only [tabD]
  rw [wayS_end (has192 (by omega) (by omega)) (by rw [show (2 : Int) + 1 = 3 from rfl]; exact fun h => absurd h.2 (by decide)), show (2 : Int) + 1 = 3 from rfl, e3]
  rfl
/-- What Get tells. -/
theorem bk_get {X : Nat → BitVec 64} {H : Nat → Nat} {F : List Int} (h : Bk X H F) {k : Nat} (hk : k < 64) : ∃ z, wayA 192 X 0 (k : Int) 3 = z ∧ z.e = 0 ∧ ((1 ≤ H k ∧ H k ≤ 60 ∧ z.d = leafB ((H k : Nat) : Int) ∧ z.lv = 3) ∨ (H k = 0 ∧ z.d.k = 0)) := by
  obtain ⟨i, j, hi, hj, rfl⟩ : ∃ i j, i < 8 ∧ j < 8 ∧ k = 8 * i + j := ⟨k / 8, k % 8, by omega, by omega, by omega⟩
  refine ⟨_, rfl, ?_⟩
  rcases h with ⟨hX, hH, _⟩ | ⟨t, m, h, _⟩
  · rw [walk_none hi hj (hX 0 (by omega))]
    exact ⟨rfl, Or.inr ⟨hH _ hk, rfl⟩⟩
  · by_cases h0 : t i = 0
    · rw [walk_two h hi hj h0]
      exact ⟨rfl, Or.inr ⟨h.no i j hi hj h0, rfl⟩⟩
    · rw [walk_three h hi hj h0]
      refine ⟨rfl, ?_⟩
      rcases h.lf i j hi hj h0 with ⟨h1, h2, h3⟩ | ⟨h1, h2 | h2⟩
      · exact Or.inl ⟨h1, h2, by simp only; rw [h3, of_l3 _ (by omega)], rfl⟩
      · exact Or.inr ⟨h1, by simp only; rw [h2, of_z3]; rfl⟩
      · exact Or.inr ⟨h1, by simp only; rw [h2, of_n3]; rfl⟩
theorem bk_leaf {X : Nat → BitVec 64} {H : Nat → Nat} {t : Nat → Nat} {m i j n : Nat} {v : BitVec 64} (h : BkT X H t m) (hi : i < 8) (hj : j < 8) (h0 : t i ≠ 0) (hv : (1 ≤ n ∧ n ≤ 60 ∧ v = wordD 2 3 (leafB ((n : Nat) : Int))) ∨ (n = 0 ∧ (v = 0#64 ∨ v = wordD 2 3 (noteD 3)))) : BkT (upd X (t i * 8 + j) v) (updT H (8 * i + j) n) t m := by
  have ht := h.tb i hi h0
  refine ⟨?_, ?_, fun i' hi' => ?_, h.tb, h.inj, fun i' j' hi' hj' h0' => ?_, fun i' j' hi' hj' h0' => ?_, h.cn⟩
  · unfold upd; rw [if_neg (by omega)]; exact h.r
  · unfold upd; rw [if_neg (by omega)]; exact h.s
  · unfold upd; rw [if_neg (by omega)]; exact h.T i' hi'
  · unfold upd updT
    by_cases he : i' = i
    · subst he
      by_cases hj2 : j' = j
      · subst hj2
        rw [if_pos rfl, if_pos rfl]
        exact hv
      · rw [if_neg (by omega), if_neg (by omega)]
        exact h.lf i' j' hi' hj' h0'
    · have ht2 : t i' ≠ t i := fun e => he (h.inj i' i hi' hi h0' e)
      rw [if_neg (by omega), if_neg (by omega)]
      exact h.lf i' j' hi' hj' h0'
  · unfold updT
    rw [if_neg (fun e => h0 (by rw [show i = i' by omega]; exact h0'))]
    exact h.no i' j' hi' hj' h0'
theorem bk_zap {X : Nat → BitVec 64} {H : Nat → Nat} {t : Nat → Nat} {m : Nat} (h : BkT X H t m) : BkT (zap X (m * 8) 8) H t m := by
  have hm := h.cn
  refine ⟨?_, ?_, fun i' hi' => ?_, h.tb, h.inj, fun i' j' hi' hj' h0' => ?_, h.no, h.cn⟩
  · unfold zap; rw [if_neg (by omega)]; exact h.r
  · unfold zap; rw [if_neg (by omega)]; exact h.s
  · unfold zap; rw [if_neg (by omega)]; exact h.T i' hi'
  · have ht := h.tb i' hi' h0'
    unfold zap; rw [if_neg (by omega)]; exact h.lf i' j' hi' hj' h0'
theorem bk_table {X : Nat → BitVec 64} {H : Nat → Nat} {t : Nat → Nat} {m i : Nat} (h : BkT X H t m) (hi : i < 8) (h0 : t i = 0) (hz : ∀ j, j < 8 → X (m * 8 + j) = 0#64) : BkT (upd X (16 + i) (wordD 2 2 (tabD (m : Int)))) H (updT t i m) (m + 1) := by
  have hm := h.cn
  refine ⟨?_, ?_, fun i' hi' => ?_, fun i' hi' h0' => ?_, fun i' k hi' hk h0' e => ?_, fun i' j' hi' hj' h0' => ?_, fun i' j' hi' hj' h0' => ?_, ?_⟩
  · unfold upd; rw [if_neg (by omega)]; exact h.r
  · unfold upd; rw [if_neg (by omega)]; exact h.s
  · unfold upd updT
    by_cases he : i' = i
    · subst he
      rw [if_pos rfl, if_pos rfl, if_neg (by omega)]
    · rw [if_neg (by omega), if_neg he]
      exact h.T i' hi'
  · unfold updT at h0' ⊢
    by_cases he : i' = i
    · rw [if_pos he]; omega
    · rw [if_neg he] at h0' ⊢
      have := h.tb i' hi' h0'
      omega
  · unfold updT at h0' e
    by_cases he : i' = i
    · by_cases hk2 : k = i
      · omega
      · rw [if_pos he, if_neg hk2] at e
        have := h.tb k hk (by omega)
        omega
    · rw [if_neg he] at h0' e
      by_cases hk2 : k = i
      · rw [if_pos hk2] at e
        have := h.tb i' hi' h0'
        omega
      · rw [if_neg hk2] at e
        exact h.inj i' k hi' hk h0' e
  · unfold updT at h0' ⊢
    by_cases he : i' = i
    · subst he
      rw [if_pos rfl]
      unfold upd
      rw [if_neg (by omega)]
      exact Or.inr ⟨h.no i' j' hi' hj' h0, Or.inl (hz j' hj')⟩
    · rw [if_neg he] at h0' ⊢
      have := h.tb i' hi' h0'
      unfold upd
      rw [if_neg (by omega)]
      exact h.lf i' j' hi' hj' h0'
  · unfold updT at h0'
    by_cases he : i' = i
    · rw [if_pos he] at h0'; omega
    · rw [if_neg he] at h0'
      exact h.no i' j' hi' hj' h0'
  · rw [cntT_new hi h0 (by omega)]
    omega
theorem bk_root {X : Nat → BitVec 64} {H : Nat → Nat} (hX : ∀ k, k < 192 → X k = 0#64) (hH : ∀ k, k < 64 → H k = 0) : BkT (upd (upd X 0 (wordD 2 0 (tabD 1))) 8 (wordD 2 1 (tabD 2))) H (fun _ => 0) 3 := by
  refine ⟨?_, ?_, fun i' hi' => ?_, fun i' hi' h0' => absurd rfl h0', fun i' k hi' hk h0' e => absurd rfl h0', fun i' j' hi' hj' h0' => absurd rfl h0', fun i' j' hi' hj' h0' => hH _ (by omega), rfl⟩
  · unfold upd; rw [if_neg (by decide), if_pos rfl]
  · unfold upd; rw [if_pos rfl]
  · unfold upd; rw [if_neg (by omega), if_neg (by omega), if_pos rfl]; exact hX _ (by omega)
theorem mapA_yes {l : Nat} {X : Nat → BitVec 64} {z : WayR} {F : List Int} {mid : Int} {d : Dsc} {n : Nat} (hk : d.k = 2) (hm : mayE 2 3 d = true) (he : z.e = 0) (ht : takeB l z.P F = true) (ho : opB z = true) (hn : 3 - z.lv = (n : Int)) (hF : n ≤ F.length) :
    mapA l X z F mid d = ⟨l, putX (extX mid (zerL X (F.take n)) z.lv z.fr (F.take n)) (lastF z.fr (F.take n)) 3 mid d, F.drop n, 0⟩ := by
  unfold mapA
  rw [if_neg (by rw [hk]; decide), if_neg (by rw [hm]; decide), if_neg (by rw [he]; decide), if_neg (by rw [ht]; decide), if_neg (by rw [ho]; decide), if_neg (by rw [hn]; simp only [decide_eq_true_eq]; omega), hn]
  rfl
theorem take_frF {P : List Int} {m : Nat} (h1 : 1 ≤ m) (hP : ∀ p ∈ P, p < (m : Int)) : takeB 192 P (frF m) = true := by
  rw [takeB_all]
  refine ⟨fun f hf => ?_, frF_nodup m⟩
  have h := frF_mem hf
  refine ⟨has192 (by omega) (by omega), fun hp => ?_⟩
  have := hP f hp
  omega
theorem put_leaf {X : Nat → BitVec 64} {i j T : Nat} (hi : i < 8) (hj : j < 8) (d : Dsc) : putX X ((T : Nat) : Int) 3 ((8 * i + j : Nat) : Int) d = upd X (T * 8 + j) (wordD 2 3 d) := by
  unfold putX
  rw [idx3 hi hj, show (((T : Nat) : Int) * 8 + (j : Int)).toNat = T * 8 + j by omega]
theorem put_third {X : Nat → BitVec 64} {i j : Nat} (hi : i < 8) (hj : j < 8) (d : Dsc) : putX X 2 2 ((8 * i + j : Nat) : Int) d = upd X (16 + i) (wordD 2 2 d) := by
  unfold putX
  rw [idx2 hi hj, show ((2 : Int) * 8 + (i : Int)).toNat = 16 + i by omega]
/-- What Unmap does. -/
theorem bk_unmap {X : Nat → BitVec 64} {H : Nat → Nat} {F : List Int} (h : Bk X H F) {k : Nat} (hk : k < 64) (h1 : 1 ≤ H k) : ∃ Y, unmA 192 X (wayA 192 X 0 (k : Int) 3) (k : Int) 3 = ((192, Y), leafB ((H k : Nat) : Int), 0) ∧ Bk Y (updT H k 0) F := by
  obtain ⟨i, j, hi, hj, rfl⟩ : ∃ i j, i < 8 ∧ j < 8 ∧ k = 8 * i + j := ⟨k / 8, k % 8, by omega, by omega, by omega⟩
  rcases h with ⟨_, hH, _⟩ | ⟨t, m, h, hF⟩
  · have := hH _ hk
    omega
  · have h0 : t i ≠ 0 := fun h0 => by have := h.no i j hi hj h0; omega
    rcases h.lf i j hi hj h0 with ⟨h2, h3, h4⟩ | ⟨h2, _⟩
    · rw [walk_three h hi hj h0, h4, of_l3 _ (by omega)]
      refine ⟨upd X (t i * 8 + j) (wordD 2 3 (noteD 3)), ?_, Or.inr ⟨t, m, bk_leaf h hi hj h0 (Or.inr ⟨rfl, Or.inr rfl⟩), hF⟩⟩
      unfold unmA
      rw [if_neg (by rw [note_may]; decide), if_neg (by simp), if_neg (by unfold pgB leafB; simp), put_leaf hi hj]
    · omega
/-- What Map does. -/
theorem bk_map {X : Nat → BitVec 64} {H : Nat → Nat} {F : List Int} (h : Bk X H F) {k : Nat} (hk : k < 64) (h1 : H k = 0) {n : Nat} (n1 : 1 ≤ n) (n6 : n ≤ 60) : ∃ Y G, mapA 192 X (wayA 192 X 0 (k : Int) 3) F (k : Int) (leafB (n : Int)) = ⟨192, Y, G, 0⟩ ∧ Bk Y (updT H k n) G ∧ G.length ≤ 15 := by
  obtain ⟨i, j, hi, hj, rfl⟩ : ∃ i j, i < 8 ∧ j < 8 ∧ k = 8 * i + j := ⟨k / 8, k % 8, by omega, by omega, by omega⟩
  have hmay := leafB_may n (by omega)
  rcases h with ⟨hX, hH, rfl⟩ | ⟨t, m, h, rfl⟩
  · rw [walk_none hi hj (hX 0 (by omega))]
    have hz : ∀ Z : Nat → BitVec 64, (∀ k, k < 192 → Z k = 0#64) → ∀ o, ∀ k, k < 192 → zap Z o 8 k = 0#64 := fun Z hZ o k hk => by unfold zap; split; rfl; exact hZ k hk
    have hr := bk_root (H := H) (hz _ (hz _ (hz _ hX 8) 16) 24) hH
    have ht := bk_table hr hi rfl (fun j hj => by unfold upd; rw [if_neg (by omega), if_neg (by omega)]; exact hz _ (hz _ (hz _ hX 8) 16) 24 _ (by omega))
    have hl := bk_leaf (n := n) (v := wordD 2 3 (leafB ((n : Nat) : Int))) ht hi hj (by unfold updT; rw [if_pos rfl]; decide) (Or.inl ⟨n1, n6, rfl⟩)
    refine ⟨_, _, mapA_yes (n := 3) rfl hmay rfl (take_frF (by decide) (by decide)) rfl rfl (by rw [frF_len]; decide), Or.inr ⟨updT (fun _ => 0) i 3, 4, ?_, by decide⟩, by decide⟩
    rw [show updT (fun _ => 0) i 3 i = 3 from by unfold updT; rw [if_pos rfl]] at hl
    rw [show (frF 1).take 3 = [1, 2, 3] from by decide]
    simp only [extX, lastF]
    rw [show ∀ Z d, putX Z 3 3 ((8 * i + j : Nat) : Int) d = upd Z (3 * 8 + j) (wordD 2 3 d) from fun Z d => put_leaf (T := 3) hi hj d]
    rw [show putX (zerL X [1, 2, 3]) 0 0 ((8 * i + j : Nat) : Int) (tabD 1) = upd (zerL X [1, 2, 3]) 0 (wordD 2 0 (tabD 1)) from by unfold putX; rw [idx0 hi hj]; rfl]
    rw [show ∀ Z, putX Z 1 (0 + 1) ((8 * i + j : Nat) : Int) (tabD 2) = upd Z 8 (wordD 2 1 (tabD 2)) from fun Z => by unfold putX; rw [show (0 : Int) + 1 = 1 from rfl, idx1 hi hj]; rfl]
    rw [show (0 : Int) + 1 + 1 = 2 from rfl, put_third hi hj]
    exact hl
  · by_cases h0 : t i = 0
    · have hm : m ≤ 10 := by have := h.cn; have := cntT_le hi h0; omega
      have hm3 := h.cn
      rw [walk_two h hi hj h0]
      have ht := bk_table (bk_zap h) hi h0 (fun j hj => by unfold zap; rw [if_pos (by omega)])
      have hl := bk_leaf (n := n) (v := wordD 2 3 (leafB ((n : Nat) : Int))) ht hi hj (by unfold updT; rw [if_pos rfl]; omega) (Or.inl ⟨n1, n6, rfl⟩)
      rw [show updT t i m i = m from by unfold updT; rw [if_pos rfl]] at hl
      refine ⟨_, _, mapA_yes (n := 1) rfl hmay rfl (take_frF (by omega) (fun p hp => by simp at hp; omega)) rfl rfl (by rw [frF_len]; omega), Or.inr ⟨updT t i m, m + 1, ?_, ?_⟩, by rw [List.length_drop, frF_len]; omega⟩
      · rw [show (frF m).take 1 = [(m : Int)] from by rw [frF_cons (by omega)]; rfl]
        simp only [extX, lastF]
        rw [put_leaf hi hj, put_third hi hj, show zerL X [(m : Int)] = zap X (m * 8) 8 from by
          unfold zerL
          show zap X ((m : Int) * 8).toNat 8 = _
          rw [show ((m : Int) * 8).toNat = m * 8 by omega]]
        exact hl
      · rw [frF_cons (by omega)]
        rfl
    · have hm3 := h.cn
      have ht := h.tb i hi h0
      have hm : m ≤ 11 := by have := cntT_8 t; omega
      rw [walk_three h hi hj h0]
      have hl := bk_leaf (n := n) (v := wordD 2 3 (leafB ((n : Nat) : Int))) h hi hj h0 (Or.inl ⟨n1, n6, rfl⟩)
      have ho : opB ⟨ofD 2 3 (X (t i * 8 + j)), 3, ((t i : Nat) : Int), [0, 1, 2, ((t i : Nat) : Int)], 0⟩ = true := by
        rcases h.lf i j hi hj h0 with ⟨h2, _⟩ | ⟨_, h2 | h2⟩
        · omega
        · rw [h2, of_z3]; rfl
        · rw [h2, of_n3]; rfl
      refine ⟨_, _, mapA_yes (n := 0) rfl hmay rfl (take_frF (by omega) (fun p hp => by simp at hp; omega)) ho rfl (Nat.zero_le _), Or.inr ⟨t, m, ?_, rfl⟩, by rw [List.length_drop, frF_len]; omega⟩
      simp only [List.take_zero, extX, lastF]
      rw [put_leaf hi hj]
      exact hl
def bX0 : Nat → BitVec 64 := upd (fun _ => 0#64) 0 4099#64
def bZ1 : WayR := wayA 192 bX0 0 64 3
def bP : (Nat × (Nat → BitVec 64)) × Int := putA 192 bX0 bZ1 64 1 (leafB 128)
def bZ2 : WayR := wayA 192 bP.1.2 0 70 3
def bS : AnsM := splA 192 bP.1.2 bZ2 [2, 3] 70
def bZ3 : WayR := wayA 192 bS.X 0 70 3
def bT : AnsM := splA 192 bS.X bZ3 [3] 70
def bL : List (Int × Int) := (allA 192 bP.1.2 0).1
theorem bP_n : bP.1.1 = 192 := by decide +kernel
theorem bP_e : bP.2 = 0 := by decide +kernel
theorem bS_n : bS.n = 192 := by decide +kernel
theorem bS_F : bS.F = [3] := by decide +kernel
theorem bS_e : bS.e = 0 := by decide +kernel
theorem bT_n : bT.n = 192 := by decide +kernel
theorem bT_F : bT.F = [] := by decide +kernel
theorem bT_e : bT.e = 0 := by decide +kernel
theorem bL_e : (allA 192 bP.1.2 0).2 = 0 := by decide +kernel
theorem bL_len : bL.length = 64 := by decide +kernel
theorem bL_same : allA 192 bT.X 0 = (bL, 0) := by decide +kernel
end Go.Proofs.Ytbhnjaajkolklaa
