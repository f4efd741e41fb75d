/- Stage 16: package pgt: a descriptor stands in a table; free frames; tests: contracts. -/
import Derived.Test.YtbhnjaajkolklaaMa
import Derived.Test.YtbhnjaajkolklaaMr
set_option linter.all false
namespace Go.Proofs.Ytbhnjaajkolklaa
open Go.ChangeShapes Go.WideShapes Go.ChangeAt Go.RowKit Go.Deep

/-- A descriptor stands in a table. -/
def putX (X : Nat → BitVec 64) (fr lv mid : Int) (d : Dsc) : Nat → BitVec 64 := upd X (fr * 8 + idxI lv mid).toNat (wordD 2 lv d)
def tabD (f : Int) : Dsc := ⟨1, f, false, false, false, false, false, 0, 0⟩
theorem has_fr {l : Nat} {fr : Int} (hM : okM l = true) (hb : hasB l fr = true) : 0 ≤ fr ∧ fr < (l : Int) / 8 ∧ (l : Int) / 8 ≤ 64 := by
  have := okM_true hM
  unfold hasB framesB at hb
  rw [if_pos hM] at hb
  simp only [Bool.and_eq_true, decide_eq_true_eq] at hb
  omega
theorem may8 {l : Nat} {fr j : Int} (hM : okM l = true) (hb : hasB l fr = true) (j0 : 0 ≤ j) (j1 : j ≤ 7) : mayM l (fr * 64 + j * 8) 8 = 0 := by
  have h := has_fr hM hb
  unfold mayM
  rw [if_neg (by decide), if_neg (by omega), if_neg (by omega)]
theorem wr8 (X : Nat → BitVec 64) (fr j : Int) (v : BitVec 64) (f0 : 0 ≤ fr) (j0 : 0 ≤ j) : wrV X (fr * 64 + j * 8) 8 v = upd X (fr * 8 + j).toNat v := by
  unfold wrV
  have e1 : (fr * 64 + j * 8) / 8 = fr * 8 + j := by omega
  have e2 : ((fr * 64 + j * 8) % 8 * 8).toNat = 0 := by omega
  rw [e1, e2]
  congr 1
  unfold pwV
  have hm : msk (8 * 8) = BitVec.allOnes 64 := by decide
  rw [hm]
  simp
  exact BitVec.and_allOnes
theorem mayE_tab {l : Nat} {f lv : Int} (hM : okM l = true) (hb : hasB l f = true) (l0 : 0 ≤ lv) (l1 : lv ≤ 2) : mayE 2 lv (tabD f) = true := by
  have h := has_fr hM hb
  unfold mayE mayD tableD tabD
  rw [placeB_iff.2 ⟨Or.inr rfl, l0, by omega⟩, if_neg (show ¬ (1 : Int) = 0 by decide), if_pos rfl]
  simp only [Bool.true_and, Bool.and_eq_true, eqD_iff, decide_eq_true_eq, numB_iff]
  exact ⟨trivial, by omega, by omega⟩
/-- Where a number stands in a row. -/
def inZ (n : Int) : List Int → Int → Int
  | [], _ => -1
  | x :: L, i => if x = n then i else inZ n L (i + 1)
theorem inZ_mem (n : Int) : ∀ (L : List Int) (i : Int), 0 ≤ i → (0 ≤ inZ n L i ↔ n ∈ L)
  | [], i, _ => by simp [inZ]
  | x :: L, i, h => by
    unfold inZ
    by_cases hx : x = n
    · rw [if_pos hx]
      simp [h, hx]
    · rw [if_neg hx, inZ_mem n L (i + 1) (by omega)]
      simp [Ne.symm hx]
theorem drop_consM {α : Type} {L : List α} {j : Nat} {x : α} (h : L[j]? = some x) : L.drop j = x :: L.drop (j + 1) := by
  obtain ⟨hl, rfl⟩ := List.getElem?_eq_some_iff.1 h
  exact List.drop_eq_getElem_cons hl
theorem take_succM {α : Type} {L : List α} {j : Nat} {x : α} (h : L[j]? = some x) : L.take (j + 1) = L.take j ++ [x] := by
  obtain ⟨hl, rfl⟩ := List.getElem?_eq_some_iff.1 h
  rw [List.take_add_one, List.getElem?_eq_getElem hl]
  rfl
/-- May these be taken, beside what is in use? -/
def takeB (l : Nat) : List Int → List Int → Bool
  | _, [] => true
  | U, f :: F => if hasB l f = true ∧ f ∉ U then takeB l (U ++ [f]) F else false
theorem pcov_any (lv : Int) (w : World) (l0 : 0 ≤ lv) (l1 : lv ≤ 3) :
    Calls Try.prog 26 #[.int .i64 lv] w fun e w' => e = .returned (.int .i64 (cov lv)) ∧ Below w.heap.size w w' := by
  exact calls_ex mixedT [] (.r 1 [(1, .call 37 (fun _ => [.int .i64 lv]) (fun _ => .tuple #[.int .i64 (cov lv), .int .i64 0]))] (.fin [] (fun _ => .int .i64 (cov lv)) [])) Try.func26 rfl (Fits.nil w) (⟨fun _ W _ => below_same (dcovers_yes lv W (numB_iff.2 ⟨l0, l1⟩)), fun _ _ h _ => ⟨rfl, h.below⟩⟩) rfl (fun _ => by kernel_rfl)
theorem pmay_anyD (lv : Int) (d : Dsc) (w : World) :
    Calls Try.prog 14 #[.int .i64 lv, dscV d] w fun e w' => e = .returned (.bool (mayE 2 lv d)) ∧ Below w.heap.size w w' := by
  exact calls_ex mixedT [] (.r 1 [aN 1 0 0 9, (2, .call 28 (fun _ => [.int .i64 2, .int .i64 lv, dscV d]) (fun _ => .int .i64 (if mayE 2 lv d then (0 : Int) else 1)))] (.fin [] (fun _ => .bool ((if mayE 2 lv d then (0 : Int) else 1) == 0)) [])) Try.func14 rfl (Fits.nil w) (⟨fun _ W _ => check_any 2 lv d.k d.f d.r d.w d.x d.a d.n d.s d.o W (mayE 2 lv d) rfl, fun _ _ h _ => ⟨ret_bool (by cases mayE 2 lv d <;> rfl), h.below⟩⟩) rfl (fun _ => by kernel_rfl)
theorem ptab_any (fr : Int) (w : World) :
    Calls Try.prog 35 #[.int .i64 fr] w fun e w' => e = .returned (dscV (tabD fr)) ∧ Below w.heap.size w w' := by
  exact calls_ex mixedT [] (.r 1 [aN 2 0 0 9] (.fin [(0, 0, 9)] (fun _ => .agg #[.int .i64 1, .int .i64 fr, .bool false, .bool false, .bool false, .bool false, .bool false, .int .i64 0, .int .i64 0]) [])) Try.func35 rfl (Fits.nil w) (fun _ _ h _ => ⟨rfl, h.below⟩) rfl (fun _ => by kernel_rfl)
theorem popen_any (f : Option Addr) (l c : Nat) (fr lv : Int) (d : Dsc) (mid : Int) (sP : Value) (b : Nat) (w : World) (hb : Fits [] w [⟨b, 0, 60, wayL f l c fr lv d mid sP, .row⟩] w) :
    Calls Try.prog 20 #[.pointer (some ⟨b, 0, none⟩)] w fun e w' => e = .returned (.bool ((d.k == 0) && ((d.o == 0) || (lv == 3)))) ∧ Below w.heap.size w w' := by
  obtain ⟨q0, hq0⟩ : ∃ b, (d.k == 0) = b := ⟨_, rfl⟩
  obtain ⟨q1, hq1⟩ : ∃ b, (d.o == 0) = b := ⟨_, rfl⟩
  obtain ⟨q2, hq2⟩ : ∃ b, (lv == 3) = b := ⟨_, rfl⟩
  exact calls_ex mixedT [⟨b, 0, 60, wayL f l c fr lv d mid sP, .row⟩] (.r 1 [a1 4 0 3, (5, .rw (fun _ => .bool (d.k == 0)) (fun _ => .bool q0)), a1 11 0 11, (12, .rw (fun _ => .bool (d.o == 0)) (fun _ => .bool q1)), a1 18 0 2, (19, .rw (fun _ => .bool (lv == 3)) (fun _ => .bool q2))] (.fin [] (fun _ => .bool (q0 && (q1 || q2))) [])) Try.func20 rfl hb (⟨fun _ => congrArg Value.bool hq0, fun _ => congrArg Value.bool hq1, fun _ => congrArg Value.bool hq2, fun _ _ h _ => ⟨ret_bool (by subst hq0 hq1 hq2; rfl), h.below⟩⟩) rfl (fun _ => by cases q0; (kernel_rfl); (cases q1 <;> kernel_rfl))
theorem ppage_any (f : Option Addr) (l c : Nat) (fr lv : Int) (d : Dsc) (mid : Int) (sP : Value) (b : Nat) (w : World) (hb : Fits [] w [⟨b, 0, 60, wayL f l c fr lv d mid sP, .row⟩] w) :
    Calls Try.prog 16 #[.pointer (some ⟨b, 0, none⟩)] w fun e w' => e = .returned (.bool ((d.k == 2) && (lv == 3))) ∧ Below w.heap.size w w' := by
  obtain ⟨q0, hq0⟩ : ∃ b, (d.k == 2) = b := ⟨_, rfl⟩
  obtain ⟨q1, hq1⟩ : ∃ b, (lv == 3) = b := ⟨_, rfl⟩
  exact calls_ex mixedT [⟨b, 0, 60, wayL f l c fr lv d mid sP, .row⟩] (.r 1 [a1 4 0 3, (5, .rw (fun _ => .bool (d.k == 2)) (fun _ => .bool q0)), a1 11 0 2, (12, .rw (fun _ => .bool (lv == 3)) (fun _ => .bool q1))] (.fin [] (fun _ => .bool (q0 && q1)) [])) Try.func16 rfl hb (⟨fun _ => congrArg Value.bool hq0, fun _ => congrArg Value.bool hq1, fun _ _ h _ => ⟨ret_bool (by subst hq0 hq1; rfl), h.below⟩⟩) rfl (fun _ => by cases q0 <;> kernel_rfl)
theorem pblock_any (f : Option Addr) (l c : Nat) (fr lv : Int) (d : Dsc) (mid : Int) (sP : Value) (b : Nat) (w : World) (hb : Fits [] w [⟨b, 0, 60, wayL f l c fr lv d mid sP, .row⟩] w) :
    Calls Try.prog 23 #[.pointer (some ⟨b, 0, none⟩)] w fun e w' => e = .returned (.bool ((d.k == 2) && decide (lv < 3))) ∧ Below w.heap.size w w' := by
  obtain ⟨q0, hq0⟩ : ∃ b, (d.k == 2) = b := ⟨_, rfl⟩
  obtain ⟨q1, hq1⟩ : ∃ b, (decide ((lv : Int) < 3)) = b := ⟨_, rfl⟩
  exact calls_ex mixedT [⟨b, 0, 60, wayL f l c fr lv d mid sP, .row⟩] (.r 1 [a1 4 0 3, (5, .rw (fun _ => .bool (d.k == 2)) (fun _ => .bool q0)), a1 11 0 2, (12, .rw (fun _ => .bool (decide ((lv : Int) < 3))) (fun _ => .bool q1))] (.fin [] (fun _ => .bool (q0 && q1)) [])) Try.func23 rfl hb (⟨fun _ => congrArg Value.bool hq0, fun _ => congrArg Value.bool hq1, fun _ _ h _ => ⟨ret_bool (by subst hq0 hq1; rfl), h.below⟩⟩) rfl (fun _ => by cases q0 <;> kernel_rfl)
theorem placks_any (f : Option Addr) (l c : Nat) (fr lv : Int) (d : Dsc) (mid : Int) (sP : Value) (b : Nat) (w : World) (l0 : 0 ≤ lv) (l1 : lv ≤ 3) (hb : Fits [] w [⟨b, 0, 60, wayL f l c fr lv d mid sP, .row⟩] w) :
    Calls Try.prog 18 #[.pointer (some ⟨b, 0, none⟩)] w fun e w' => e = .returned (.int .i64 (3 - lv)) ∧ Below w.heap.size w w' := by
  exact calls_ex mixedT [⟨b, 0, 60, wayL f l c fr lv d mid sP, .row⟩] (.r 1 [a1 4 0 2, (5, .rw (fun _ => .int .i64 (IntKind.i64.wrap (3 - lv))) (fun _ => .int .i64 (3 - lv)))] (.fin [] (fun _ => .int .i64 (3 - lv)) [])) Try.func18 rfl hb (⟨fun _ => by rw [IntWalk.i64_in _ (by omega)], fun _ _ h _ => ⟨rfl, h.below⟩⟩) rfl (fun _ => by kernel_rfl)
theorem phas_any (f : Option Addr) (l c : Nat) (fr lv n : Int) (rest : List Value) (b : Nat) (w : World) (hM : okM l = true) (hb : Fits [] w [⟨b, 0, 58, (.slice f l c :: .int .i64 fr :: .int .i64 lv :: rest), .row⟩] w) :
    Calls Try.prog 32 #[.pointer (some ⟨b, 0, none⟩), .int .i64 n] w fun e w' => e = .returned (.bool (hasB l n)) ∧ Below w.heap.size w w' := by
  obtain ⟨q0, hq0⟩ : ∃ b, (decide ((n : Int) ≥ 0)) = b := ⟨_, rfl⟩
  obtain ⟨q1, hq1⟩ : ∃ b, (decide ((n : Int) < ((l : Int) / 8))) = b := ⟨_, rfl⟩
  exact calls_ex mixedT [⟨b, 0, 58, (.slice f l c :: .int .i64 fr :: .int .i64 lv :: rest), .row⟩] (.r 1 [a1 3 0 0, (4, .call 44 (fun _ => [.agg #[.slice f l c]]) (fun _ => .tuple #[.int .i64 ((l : Int) / 8), .int .i64 0]))] (.r 2 [(1, .rw (fun _ => .bool (decide ((n : Int) ≥ 0))) (fun _ => .bool q0)), (5, .rw (fun _ => .bool (decide ((n : Int) < ((l : Int) / 8)))) (fun _ => .bool q1))] (.fin [] (fun _ => .bool (q0 && q1)) []))) Try.func32 rfl hb (⟨fun _ W _ => (frames_any f l c W).mono fun _ _ h => by rw [if_pos hM] at h; exact h, fun _ => congrArg Value.bool hq0, fun _ => congrArg Value.bool hq1, fun _ _ h _ => ⟨ret_bool (by subst hq0 hq1; unfold hasB framesB; rw [if_pos hM]), h.below⟩⟩) rfl (fun _ => by cases q0 <;> kernel_rfl)
set_option maxRecDepth 100000 in
theorem zix_loop (f : Option Addr) (l c : Nat) (L : List Int) (n : Int) {w0 W : World} {a : Act} {R : Ending → World → Prop} (hL : RowsAt KMz w0 f L) (hn : l = L.length) (hl : l ≤ 1000000) (hR : ∀ w', Keep [] w0 w' → R (.returned (.int .i64 (inZ n L 0))) w')
    (hT : Has Try.f45.ntmps [(0, .slice f l c), (1, .int .i64 n), (7, .int .i64 l), (8, .int .i64 0)] a) (hF : Fits [] w0 [] W) :
    (nthLoop Try.f45 0).wp Try.prog (fun ze a w => (ze = .exit 0 ∧ Has Try.f45.ntmps [] a ∧ Fits [] w0 [] w ∧ (inZ n L 0 = -1)) ∨ (ze = .ret ∧ bodyPost Try.prog Try.f45 R .ret a w)) a W := by
  rw [show nthLoop Try.f45 0 = .loop (bodyOf (nthLoop Try.f45 0)) from by kernel_rfl]
  refine wp_loop_ex (fun (j : Nat) a w => j ≤ l ∧ Has Try.f45.ntmps [(0, .slice f l c), (1, .int .i64 n), (7, .int .i64 l), (8, .int .i64 j)] a ∧ Fits [] w0 [] w ∧ (inZ n (L.drop j) j = inZ n L 0)) (fun j => l - j) 0 ⟨Nat.zero_le _, hT, hF, rfl⟩ fun j a w hI => ?_
  clear hT hF
  obtain ⟨hj, hT, hF, hV⟩ := hI
  by_cases hlt : j < l
  · have hd : decide ((j : Int) < l) = true := decide_eq_true (by omega)
    have hjw : IntKind.i64.wrap ((j : Int) + 1) = ((j + 1 : Nat) : Int) := (IntWalk.i64_in _ (by omega)).trans (by omega)
    obtain ⟨qj, hqj⟩ : ∃ q, L[j]? = some q := ⟨_, List.getElem?_eq_getElem (by omega)⟩
    obtain ⟨b1, o1, rfl, hF⟩ := hF.rows hL hqj (by exact Nat.le_refl _) (fun _ _ => nofun)
    rw [drop_consM hqj, inZ] at hV
    obtain ⟨q0, hq0⟩ : ∃ b, (n == qj) = b := ⟨_, rfl⟩
    exact wp_ex mixedT Try.f45 [(0, .slice (some ⟨b1, o1, none⟩) l c), (1, .int .i64 n), (7, .int .i64 l), (8, .int .i64 j)] [⟨b1, o1 + j * 1, 3, (KMz.V qj).toList, .row⟩] (.r 2 [(0, .rw (fun _ => .bool (decide ((j : Int) < l))) (fun _ => .bool true))] (.r 4 [(3, .ix 25 (fun _ => .slice (some ⟨b1, o1, none⟩) l c) (fun _ => .int .i64 j) (fun _ => .pointer (some ⟨b1, o1 + j * 1, none⟩))), a1 4 0 0, (5, .rw (fun _ => .bool (n == qj)) (fun _ => .bool q0))] (.split (q0) (.fin [] (fun _ => .int .i64 j) []) (.r 6 [(0, .rw (fun _ => .int .i64 (IntKind.i64.wrap (j + 1))) (fun _ => .int .i64 ((j + 1 : Nat) : Int)))] (.out none (fun _ => [(0, .slice (some ⟨b1, o1, none⟩) l c), (1, .int .i64 n), (7, .int .i64 l), (8, .int .i64 ((j + 1 : Nat) : Int))]) []))))) hT hF (⟨fun _ => congrArg Value.bool hd, fun _ _ => ix_row 25 3 b1 o1 _ _ j 1 Try.underlying25 (by kernel_rfl) hlt, fun _ => congrArg Value.bool hq0, fun hS2 => fun _ _ hk _ => by rw [show (j : Int) = inZ n L 0 from by subst hq0; rw [← hV, if_pos (by have h := hS2; simp only [beq_iff_eq] at h; omega)]]; exact hR _ hk, fun hS2 => ⟨fun _ => by rw [hjw], fun _ _ _ hT1 hF1 => ⟨j + 1, ⟨by omega, hT1, hF1, (show inZ n (L.drop (j + 1)) ((j : Int) + 1) = _ from by subst hq0; rw [← hV, if_neg (by have h := hS2; simp only [beq_eq_false_iff_ne, ne_eq] at h; omega)])⟩, by omega⟩⟩⟩) (J := fun ze a w => match ze with | .normal => ∃ j', (j' ≤ l ∧ Has Try.f45.ntmps [(0, .slice (some ⟨b1, o1, none⟩) l c), (1, .int .i64 n), (7, .int .i64 l), (8, .int .i64 j')] a ∧ Fits [] w0 [] w ∧ (inZ n (L.drop j') j' = inZ n L 0)) ∧ l - j' < l - j | ze => (ze = .exit 0 ∧ Has Try.f45.ntmps [] a ∧ Fits [] w0 [] w ∧ (inZ n L 0 = -1)) ∨ (ze = .ret ∧ bodyPost Try.prog Try.f45 R .ret a w)) (fun _ _ h => Or.inr ⟨rfl, h⟩) (fun e _ _ h => by cases e <;> exact h) (fun _ => by kernel_rfl)
  · have hd : decide ((j : Int) < l) = false := decide_eq_false (by omega)
    exact wp_ex mixedT Try.f45 [(0, .slice f l c), (1, .int .i64 n), (7, .int .i64 l), (8, .int .i64 j)] [] (.r 2 [(0, .rw (fun _ => .bool (decide ((j : Int) < l))) (fun _ => .bool false))] (.out (some 0) (fun _ => []) [])) hT hF (⟨fun _ => congrArg Value.bool hd, fun _ _ _ hT1 hF1 => Or.inl (by have hjl : j = l := (by omega); subst hjl; exact ⟨rfl, hT1, hF1, by rw [← hV, hn, List.drop_length]; rfl⟩)⟩) (J := fun ze a w => match ze with | .normal => ∃ j', (j' ≤ l ∧ Has Try.f45.ntmps [(0, .slice f l c), (1, .int .i64 n), (7, .int .i64 l), (8, .int .i64 j')] a ∧ Fits [] w0 [] w ∧ (inZ n (L.drop j') j' = inZ n L 0)) ∧ l - j' < l - j | ze => (ze = .exit 0 ∧ Has Try.f45.ntmps [] a ∧ Fits [] w0 [] w ∧ (inZ n L 0 = -1)) ∨ (ze = .ret ∧ bodyPost Try.prog Try.f45 R .ret a w)) (fun _ _ h => Or.inr ⟨rfl, h⟩) (fun e _ _ h => by cases e <;> exact h) (fun _ => by kernel_rfl)
theorem zix_any (f : Option Addr) (l c : Nat) (L : List Int) (n : Int) (w : World) (hL : RowsAt KMz w f L) (hn : l = L.length) (hl : l ≤ 1000000) :
    Calls Try.prog 45 #[.slice f l c, .int .i64 n] w fun r w' => r = .returned (.int .i64 (inZ n L 0)) ∧ Below w.heap.size w w' := by
  exact calls_ex mixedT [] (.cc (nthLoop Try.f45 0) (fun _ => [(0, .slice f l c), (1, .int .i64 n), (7, .int .i64 l), (8, .int .i64 0)]) [] (some 0) (fun _ => []) [] 0 [fun _ => .one (fun _ => inZ n L 0 = -1)] (.fin [] (fun _ => .int .i64 (-1)) [(0, (fun E => ⟨0, 0, 0, [], .fact ((E.f 0).map (·.block)) ((fun _ => inZ n L 0 = -1))⟩))])) Try.func45 rfl (Fits.nil w) (⟨fun E a W hT hF => wp_mono (zix_loop f l c L n (hL.below hF.keep.below) hn hl (fun _ hk => ⟨rfl, (hF.keep.trans hk).below⟩) hT hF.ro) fun e a w h => h.imp (fun h => ⟨h.1, CPost.told h.2.2.2 hF.keep h.2.2.1.keep h.2.1⟩) id, fun _ _ hk hp => ⟨by rw [(hp.1 _ (List.mem_singleton.2 rfl)).2.2.1], hk.below⟩⟩) rfl (fun _ => by kernel_rfl)
theorem zct_any (f : Option Addr) (l c : Nat) (L : List Int) (n : Int) (w : World) (hL : RowsAt KMz w f L) (hn : l = L.length) (hl : l ≤ 1000000) :
    Calls Try.prog 33 #[.slice f l c, .int .i64 n] w fun r w' => r = .returned (.bool (decide (n ∈ L))) ∧ Below w.heap.size w w' := by
  exact calls_ex mixedT [] (.r 1 [(2, .call 45 (fun _ => [.slice f l c, .int .i64 n]) (fun _ => .int .i64 (inZ n L 0))), (3, .rw (fun _ => .bool (decide (((inZ n L 0) : Int) ≥ 0))) (fun _ => .bool (decide (0 ≤ inZ n L 0))))] (.fin [] (fun _ => .bool (decide (0 ≤ inZ n L 0))) [])) Try.func33 rfl (Fits.nil w) (⟨fun _ W hk => zix_any f l c L n W (hL.below hk.below) hn hl, fun _ => rfl, fun _ _ h _ => ⟨ret_bool (by rw [Bool.eq_iff_iff]; simp [inZ_mem n L 0 (Int.le_refl 0)]), h.below⟩⟩) rfl (fun _ => by kernel_rfl)
end Go.Proofs.Ytbhnjaajkolklaa
