/- What the program finds, and where the page's own finds it: plainly. -/
import Derived.Test.YtcbjmpllmnphkaaVc
set_option linter.all false
namespace Go.Proofs.Ytcbjmpllmnphkaa
open Go.ChangeShapes Go.WideShapes Go.ChangeAt Go.RowKit Go.Deep

theorem fnd_place (p q : Ety → Bool) : ∀ (L : List Ety) (k : Int), (∀ x ∈ L, p x = q x) → (placeE p L k = -1 ∧ fndE q L = (ent0, 3)) ∨ ∃ (i : Nat) (y : Ety), L[i]? = some y ∧ placeE p L k = k + (i : Int) ∧ fndE q L = (y, 0)
  | [], _, _ => .inl ⟨rfl, rfl⟩
  | x :: L, k, h => by
    have hx := h x (List.mem_cons_self ..)
    unfold placeE fndE
    cases hp : p x
    · rw [← hx, hp, if_neg (by decide), if_neg (by decide)]
      rcases fnd_place p q L (k + 1) (fun y hy => h y (List.mem_cons_of_mem _ hy)) with h1 | ⟨i, y, h1, h2, h3⟩
      · exact .inl h1
      · exact .inr ⟨i + 1, y, by simpa using h1, by rw [h2]; push_cast; omega, h3⟩
    · rw [← hx, hp, if_pos rfl, if_pos rfl]
      exact .inr ⟨0, x, rfl, by simp, rfl⟩
def is4 (vm sp pg acc : Int) : Bool := (numB vm 15 && numB pg 4095) && numB sp 15 && numB acc 2
def is5 (vm pg acc : Int) : Bool := (numB vm 15 && numB pg 4095) && numB acc 2
def is6 (vm sp pg : Int) : Bool := (numB vm 15 && numB pg 4095) && numB sp 15
theorem pl4 (vm sp pg acc : Int) : (numB acc 2 && mayPl vm sp pg) = is4 vm sp pg acc := by
  unfold mayPl is4
  cases numB acc 2 <;> cases numB vm 15 <;> cases numB sp 15 <;> cases numB pg 4095 <;> rfl
theorem pl5 (vm pg acc : Int) : (numB acc 2 && mayPl vm 0 pg) = is5 vm pg acc := by
  have h0 : numB 0 15 = true := rfl
  unfold mayPl is5
  rw [h0]
  cases numB acc 2 <;> cases numB vm 15 <;> cases numB pg 4095 <;> rfl
theorem pl6 (vm sp pg : Int) : mayPl vm sp pg = is6 vm sp pg := by
  unfold mayPl is6
  cases numB vm 15 <;> cases numB sp 15 <;> cases numB pg 4095 <;> rfl
section
variable {E : List Ety} {D : List Inv} {vm sp pg acc : Int}
theorem no4 (h : (mayT E D && is4 vm sp pg acc) = false) : firstR E D 1 vm sp pg acc = (ent0, 1) := by
  unfold firstR
  rw [pl4, h]
  rfl
theorem no5 (h : (mayT E D && is5 vm pg acc) = false) : firstR E D 2 vm 0 pg acc = (ent0, 1) := by
  unfold firstR
  rw [pl5, h]
  rfl
theorem no6 (h : (mayT E D && is6 vm sp pg) = false) : deepR E D vm sp pg = (ent0, 1) := by
  unfold deepR
  rw [pl6, h]
  rfl
theorem look4 (h : mayT E D = true) (h2 : is4 vm sp pg acc = true) : (placeE (isWh vm sp pg acc) E 0 = -1 ∧ firstR E D 1 vm sp pg acc = (ent0, 3)) ∨ ∃ (i : Nat) (y : Ety), E[i]? = some y ∧ placeE (isWh vm sp pg acc) E 0 = (i : Int) ∧ firstR E D 1 vm sp pg acc = (y, 0) := by
  unfold firstR
  rw [pl4, h, h2]
  have hp : ∀ x ∈ E, isWh vm sp pg acc x = fitsE 1 vm sp pg acc x := fun x _ => by
    unfold isWh fitsE isE ofE foE
    by_cases hk : x.k = 1
    · have h3 : ¬ x.k = 3 := by omega
      rw [if_neg h3]
      simp only [Bool.and_assoc]
    · rw [decide_eq_false hk]
      rfl
  rcases fnd_place _ _ E 0 hp with h1 | ⟨i, y, h1, h3, h4⟩
  · exact .inl h1
  · exact .inr ⟨i, y, h1, by rw [h3, Int.zero_add], h4⟩
theorem look5 (h : mayT E D = true) (h2 : is5 vm pg acc = true) : (placeE (isMd vm pg acc) E 0 = -1 ∧ firstR E D 2 vm 0 pg acc = (ent0, 3)) ∨ ∃ (i : Nat) (y : Ety), E[i]? = some y ∧ placeE (isMd vm pg acc) E 0 = (i : Int) ∧ firstR E D 2 vm 0 pg acc = (y, 0) := by
  have hm := mayT_may h
  unfold firstR
  rw [pl5, h, h2]
  have hp : ∀ x ∈ E, isMd vm pg acc x = fitsE 2 vm 0 pg acc x := fun x hx => by
    have hx := hm x hx
    unfold isMd fitsE isE foE
    by_cases hk : x.k = 2
    · have h3 : ¬ x.k = 3 := by omega
      rw [mayEn_two] at hx
      unfold kindE at hx
      rw [if_neg (by omega), if_pos hk] at hx
      simp only [Bool.and_eq_true] at hx
      rw [if_neg h3, hx.2.2.1]
      simp only [Bool.true_or, Bool.true_and, Bool.and_assoc]
    · rw [decide_eq_false hk]
      rfl
  rcases fnd_place _ _ E 0 hp with h1 | ⟨i, y, h1, h3, h4⟩
  · exact .inl h1
  · exact .inr ⟨i, y, h1, by rw [h3, Int.zero_add], h4⟩
end
/-- The deepest table: its place, and itself. -/
theorem deep_walk (vm sp pg : Int) (E : List Ety) : ∀ (L : List Ety) (k : Nat) (a v : Int) (y : Ety), E.drop k = L → (∀ x ∈ L, x.k = 3 → 1 ≤ x.lv) →
    ((a = -1 ∧ v = 0 ∧ y = ent0) ∨ ∃ i : Nat, a = (i : Int) ∧ E[i]? = some y ∧ v = y.lv ∧ 1 ≤ y.lv) →
    ((walkF (isWk vm sp pg) L k a v = -1 ∧ deepF (isE vm sp pg) L y = ent0) ∨ ∃ (i : Nat) (z : Ety), walkF (isWk vm sp pg) L k a v = (i : Int) ∧ E[i]? = some z ∧ deepF (isE vm sp pg) L y = z ∧ 1 ≤ z.lv)
  | [], k, a, v, y, _, _, h => by
    unfold walkF deepF
    rcases h with ⟨h1, _, h3⟩ | ⟨i, h1, h2, _, h4⟩
    · exact .inl ⟨h1, h3⟩
    · exact .inr ⟨i, y, h1, h2, rfl, h4⟩
  | x :: L, k, a, v, y, hd, hl, h => by
    have hk : E[k]? = some x := by
      have := congrArg (fun l => l[0]?) hd
      simpa using this
    have hd2 : E.drop (k + 1) = L := by
      have := congrArg List.tail hd
      simpa [List.tail_drop] using this
    have hwk : isWk vm sp pg x = (decide (x.k = 3) && isE vm sp pg x) := by
      unfold isWk isE ofE foE
      by_cases h3 : x.k = 3
      · rw [if_pos h3]
        simp only [Bool.and_assoc]
      · rw [decide_eq_false h3]
        rfl
    have hl2 : ∀ z ∈ L, z.k = 3 → 1 ≤ z.lv := fun z hz => hl z (List.mem_cons_of_mem _ hz)
    have hx := hl x (List.mem_cons_self ..)
    have hc : (isWk vm sp pg x && (decide (a < 0) || decide (v < x.lv))) = (decide (x.k = 3) && (decide (y.lv < x.lv) && isE vm sp pg x)) := by
      rw [hwk]
      by_cases h3 : x.k = 3
      · have h4 := hx h3
        have h5 : (decide (a < 0) || decide (v < x.lv)) = decide (y.lv < x.lv) := by
          rcases h with ⟨h1, h2, h6⟩ | ⟨i, h1, _, h6, h7⟩
          · subst h6
            have e : ent0.lv = 0 := rfl
            rw [decide_eq_true (show a < 0 by omega), decide_eq_true (show ent0.lv < x.lv by rw [e]; omega)]
            rfl
          · rw [decide_eq_false (show ¬ a < 0 by omega), h6]
            rfl
        rw [h5, decide_eq_true h3]
        cases isE vm sp pg x <;> cases decide (y.lv < x.lv) <;> rfl
      · rw [decide_eq_false h3]
        rfl
    unfold walkF deepF
    rw [hc]
    split
    · rename_i hy
      simp only [Bool.and_eq_true, decide_eq_true_eq] at hy
      have := deep_walk vm sp pg E L (k + 1) k x.lv x hd2 hl2 (.inr ⟨k, rfl, hk, rfl, hx hy.1⟩)
      push_cast at this
      exact this
    · have := deep_walk vm sp pg E L (k + 1) a v y hd2 hl2 h
      push_cast at this
      exact this
theorem look6 {E : List Ety} {D : List Inv} {vm sp pg : Int} (h : mayT E D = true) (h2 : is6 vm sp pg = true) : (walk9 E vm sp pg = -1 ∧ deepR E D vm sp pg = (ent0, 3)) ∨ ∃ (i : Nat) (y : Ety), E[i]? = some y ∧ walk9 E vm sp pg = (i : Int) ∧ deepR E D vm sp pg = (y, 0) := by
  have hm := mayT_may h
  unfold deepR walk9
  rw [pl6, h, h2]
  rw [show (true && true) = true from rfl, if_pos rfl]
  rcases deep_walk vm sp pg E E 0 (-1) 0 ent0 (by simp) (fun x hx hk => (mayEn_lv (hm x hx) hk).1) (.inl ⟨rfl, rfl, rfl⟩) with ⟨h1, h3⟩ | ⟨i, z, h1, h3, h4, h5⟩
  · refine .inl ⟨h1, ?_⟩
    rw [h3]
    rfl
  · refine .inr ⟨i, z, h3, h1, ?_⟩
    rw [h4, if_neg (by omega)]
end Go.Proofs.Ytcbjmpllmnphkaa
