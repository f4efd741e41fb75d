/- Stage 16: the reference: Map, Split whole; All; EqMaps; num: contracts. -/
import Derived.Test.YtbhnjaajkolklaaGreatMi
set_option linter.all false
namespace Go.Proofs.YtbhnjaajkolklaaGreat
open Go.ChangeShapes Go.WideShapes Go.ChangeAt Go.RowKit Go.Deep

theorem way_lv4 {l : Nat} {X : Nat → BitVec 64} {root mid dp : Int} {z : WayR} (hm : mayW l mid = true) (hz : wayA l X root mid dp = z) : 0 ≤ z.lv ∧ z.lv ≤ 3 := by
  subst hz
  unfold wayA
  rw [if_pos hm]
  have key : ∀ (n : Nat) (lv fr : Int) (R : List Int), 0 ≤ lv → lv + (n + 1) = 4 → 0 ≤ (wayS l (fun lv f => tblD X 2 lv f mid) dp (n + 1) lv fr R).lv ∧ (wayS l (fun lv f => tblD X 2 lv f mid) dp (n + 1) lv fr R).lv ≤ 3 := by
    intro n
    induction n with
    | zero =>
      intro lv fr R h1 h2
      have hk := tbl_kind X 2 lv fr mid
      unfold wayS
      split
      · simp only; omega
      · rw [if_neg (by intro h; omega)]
        simp only; omega
    | succ n ih =>
      intro lv fr R h1 h2
      unfold wayS
      split
      · simp only; omega
      · split
        · exact ih _ _ _ (by omega) (by omega)
        · simp only; omega
  exact key 3 0 root [] (by decide) (by decide)
theorem rmap_any (f : Option Addr) (l c : Nat) (X : Nat → BitVec 64) (root mid : Int) (F : List Int) (g : Option Addr) (n k : Nat) (d : Dsc) (z : WayR) (w : World) (hX : WordsAt w f l X) (hm : mayW l mid = true) (hz : wayA l X root mid 3 = z) (hG : IntsAt w g F) (hn : n = F.length) (hn5 : n ≤ 100000) (hnk : n ≤ k) (hd : mayE 2 3 d = true) (hdk : d.k = 2) :
    Calls Tryz.prog 13 #[.agg #[.slice f l c], .int .i64 root, .slice g n k, .int .i64 mid, dscV d] w (EndMF w (mapA l X z F mid d)) := by
  have h4 := way_lv4 hm hz
  have h : z.lv = 0 ∨ z.lv = 1 ∨ z.lv = 2 ∨ z.lv = 3 := by omega
  rcases h with h | h | h | h
  · by_cases hs : n < 3
    · exact rmap0s f l c X root mid F g n k d z w hX hm hz hG hn hn5 hnk hd hdk h hs
    · rcases F with _ | ⟨f1, _ | ⟨f2, _ | ⟨f3, F9⟩⟩⟩
      · simp at hn; omega
      · simp at hn; omega
      · simp at hn; omega
      · exact rmap0 f l c X root mid f1 f2 f3 F9 g n k d z w hX hm hz hG hn hn5 hnk hd hdk h
  · by_cases hs : n < 2
    · exact rmap1s f l c X root mid F g n k d z w hX hm hz hG hn hn5 hnk hd hdk h hs
    · rcases F with _ | ⟨f1, _ | ⟨f2, F9⟩⟩
      · simp at hn; omega
      · simp at hn; omega
      · exact rmap1 f l c X root mid f1 f2 F9 g n k d z w hX hm hz hG hn hn5 hnk hd hdk h
  · by_cases hs : n < 1
    · exact rmap2s f l c X root mid F g n k d z w hX hm hz hG hn hn5 hnk hd hdk h hs
    · rcases F with _ | ⟨f1, F9⟩
      · simp at hn; omega
      · exact rmap2 f l c X root mid f1 F9 g n k d z w hX hm hz hG hn hn5 hnk hd hdk h
  · exact rmap3 f l c X root mid F g n k d z w hX hm hz hG hn hn5 hnk hd hdk h
theorem pspl_any (f : Option Addr) (l c : Nat) (X : Nat → BitVec 64) (root mid : Int) (F : List Int) (g : Option Addr) (n k : Nat) (z : WayR) (w : World) (hX : WordsAt w f l X) (hl : l ≤ 100000) (hlc : l ≤ c) (hG : IntsAt w g F) (hn : n = F.length) (hn5 : n ≤ 100000) (hnk : n ≤ k) (hk0 : g = none → k = 0) (hz : wayA l X root mid 3 = z) :
    Calls Tryz.prog 52 #[.agg #[.slice f l c], .int .i64 root, .slice g n k, .int .i64 mid] w (EndMF w (splA l X z F mid)) := by
  rcases F with _ | ⟨f0, F9⟩
  · obtain rfl : n = 0 := hn
    exact pspl0_any f l c X root mid g k z w hX hl hlc hG hk0 hz
  · exact pspl1_any f l c X root mid f0 F9 g n k z w hX hl hlc hG hn hn5 hnk hk0 hz
theorem rspl_any (f : Option Addr) (l c : Nat) (X : Nat → BitVec 64) (root mid : Int) (F : List Int) (g : Option Addr) (n k : Nat) (z : WayR) (w : World) (hX : WordsAt w f l X) (hm : mayW l mid = true) (hz : wayA l X root mid 3 = z) (hG : IntsAt w g F) (hn : n = F.length) (hn5 : n ≤ 100000) (hnk : n ≤ k) :
    Calls Tryz.prog 53 #[.agg #[.slice f l c], .int .i64 root, .slice g n k, .int .i64 mid] w (EndMF w (splA l X z F mid)) := by
  rcases F with _ | ⟨f0, F9⟩
  · obtain rfl : n = 0 := hn
    exact rspl0_any f l c X root mid g k z w hX hm hz hG
  · exact rspl1_any f l c X root mid f0 F9 g n k z w hX hm hz hG hn hn5 hnk
structure RaX where
  n : Nat
  m : Int
  L : List (Int × Int)
  g : Option Addr
  k : Nat
def RaX.I (f : Option Addr) (l c : Nat) (X : Nat → BitVec 64) (root : Int) (b2 : Nat) (q : List (Int × Int) × Bool) (w0 : World) (x : RaX) (a : Act) (w : World) : Prop := (0 ≤ x.m) ∧ (x.m ≤ 4607) ∧ (4096 ≤ x.m + x.n) ∧ ((x.L.length : Int) ≤ x.m) ∧ (((allS l X root x.n x.m x.L).1, (allS l X root x.n x.m x.L).2 == 0) = q) ∧ Has Tryz.f17.ntmps [(1, .int .i64 root), (2, .pointer (some ⟨b2, 0, none⟩)), (6, .slice x.g x.L.length x.k), (7, .int .i64 x.m)] a ∧ Fits [] w0 [⟨b2, 0, 24, [.slice f l c], .own⟩, ownFx KMm.t KMm.N x.g x.L.length x.k (rcells KMm x.L)] w
structure RbX where
  j : Nat
  g : Option Addr
  k : Nat
def RbX.I (f : Option Addr) (l c : Nat) (X : Nat → BitVec 64) (root : Int) (b2 : Nat) (q : List (Int × Int) × Bool) (n : Nat) (m : Int) (L : List (Int × Int)) (z : WayR) (nc b9 : Nat) (w0 : World) (x : RbX) (a : Act) (w : World) : Prop := (x.j ≤ nc) ∧ Has Tryz.f17.ntmps [(1, .int .i64 root), (2, .pointer (some ⟨b2, 0, none⟩)), (6, .slice x.g (L ++ mapsK m z.d.f x.j).length x.k), (7, .int .i64 m), (9, .pointer (some ⟨b9, 0, none⟩)), (12, .int .i64 ((nc : Nat) : Int)), (13, .int .i64 x.j)] a ∧ Fits [] w0 [⟨b2, 0, 24, [.slice f l c], .own⟩, ownFx KMm.t KMm.N x.g (L ++ mapsK m z.d.f x.j).length x.k (rcells KMm (L ++ mapsK m z.d.f x.j)), ⟨b9, 0, 37, (dscC z.d), .own⟩] w
theorem ra_in_rest (f : Option Addr) (l c : Nat) (X : Nat → BitVec 64) (root : Int) (b2 : Nat) (q : List (Int × Int) × Bool) (n : Nat) (m : Int) (L : List (Int × Int)) (z : WayR) (nc b9 : Nat) {w0 W : World} {a : Act} {Q : Exit → Act → World → Prop} (m0 : 0 ≤ m) (m9 : m ≤ 4095) (hn : 4096 ≤ m + (n + 1 : Nat)) (hL : (L.length : Int) ≤ m) (hnc : 1 ≤ nc ∧ nc ≤ 512) (hdf : 0 ≤ z.d.f ∧ z.d.f ≤ 4095) (hq : ((allS l X root n (m + nc) (L ++ mapsK m z.d.f nc)).1, (allS l X root n (m + nc) (L ++ mapsK m z.d.f nc)).2 == 0) = q) (j : Nat) (g : Option Addr) (k : Nat) (hjn : j = nc)
    (hT : Has Tryz.f17.ntmps [(1, .int .i64 root), (2, .pointer (some ⟨b2, 0, none⟩)), (6, .slice g (L ++ mapsK m z.d.f j).length k), (7, .int .i64 m), (9, .pointer (some ⟨b9, 0, none⟩)), (12, .int .i64 ((nc : Nat) : Int)), (13, .int .i64 j)] a) (hF : Fits [] w0 [⟨b2, 0, 24, [.slice f l c], .own⟩, ownFx KMm.t KMm.N g (L ++ mapsK m z.d.f j).length k (rcells KMm (L ++ mapsK m z.d.f j)), ⟨b9, 0, 37, (dscC z.d), .own⟩] W) (hQr : ∀ a w, bodyPost Tryz.prog Tryz.f17 (fun e w' => ∃ f c, e = .returned (.tuple #[.slice f q.1.length c, .bool q.2]) ∧ OwnR KMm w' w0.heap.size (.slice f q.1.length c) q.1 ∧ Below w0.heap.size w0 w') .ret a w → Q .ret a w) (hQn : ∀ a w, (∃ x : RaX, RaX.I f l c X root b2 q w0 x a w ∧ x.n < n + 1) → Q .normal a w) : wpI Tryz.prog Q (restAt Tryz.f17 1) (.exit 2) a W := by
  exact wpI_pop (k' := popD 2 (restAt Tryz.f17 1)) (by kernel_rfl) (wpI_ex mixedT Tryz.f17 (popD 2 (restAt Tryz.f17 1)) [(1, .int .i64 root), (2, .pointer (some ⟨b2, 0, none⟩)), (6, .slice g (L ++ mapsK m z.d.f j).length k), (7, .int .i64 m), (9, .pointer (some ⟨b9, 0, none⟩)), (12, .int .i64 ((nc : Nat) : Int)), (13, .int .i64 j)] [⟨b2, 0, 24, [.slice f l c], .own⟩, ownFx KMm.t KMm.N g (L ++ mapsK m z.d.f j).length k (rcells KMm (L ++ mapsK m z.d.f j)), ⟨b9, 0, 37, (dscC z.d), .own⟩] (.r 13 [(2, .rw (fun _ => .int .i64 (IntKind.i64.wrap (m + ((nc : Nat) : Int)))) (fun _ => .int .i64 (m + ((nc : Nat) : Int))))] (.out none (fun _ => [(1, .int .i64 root), (2, .pointer (some ⟨b2, 0, none⟩)), (6, .slice g (L ++ mapsK m z.d.f j).length k), (7, .int .i64 (m + ((nc : Nat) : Int)))]) [(0, (fun _ => ⟨b2, 0, 24, [.slice f l c], .own⟩)), (1, (fun _ => ownFx KMm.t KMm.N g (L ++ mapsK m z.d.f j).length k (rcells KMm (L ++ mapsK m z.d.f j))))])) hT hF (⟨fun _ => by rw [IntWalk.i64_in _ (by omega)], fun E a w hT1 hF1 => hQn a w ⟨⟨n, m + nc, L ++ mapsK m z.d.f j, g, k⟩, ⟨(show 0 ≤ m + (nc : Int) by omega), (show m + (nc : Int) ≤ 4607 by omega), (show 4096 ≤ m + (nc : Int) + (n : Int) by omega), (by simp only [List.length_append, mapsK_len]; omega), (by rw [hjn]; exact hq), hT1, by exact hF1⟩, Nat.lt_succ_self n⟩⟩) (R := (fun e w' => ∃ f c, e = .returned (.tuple #[.slice f q.1.length c, .bool q.2]) ∧ OwnR KMm w' w0.heap.size (.slice f q.1.length c) q.1 ∧ Below w0.heap.size w0 w')) (J := fun e a w => match e with | .normal => Q .normal a w | _ => False) hQr (fun e a w h => by cases e with | none => exact h | some _ => exact h.elim) (fun _ => by kernel_rfl))
set_option maxRecDepth 100000 in
theorem ra_in (f : Option Addr) (l c : Nat) (X : Nat → BitVec 64) (root : Int) (b2 : Nat) (q : List (Int × Int) × Bool) (n : Nat) (m : Int) (L : List (Int × Int)) (z : WayR) (nc b9 : Nat) {w0 W : World} {a : Act} {Q : Exit → Act → World → Prop} (m0 : 0 ≤ m) (m9 : m ≤ 4095) (hn : 4096 ≤ m + (n + 1 : Nat)) (hL : (L.length : Int) ≤ m) (hnc : 1 ≤ nc ∧ nc ≤ 512) (hdf : 0 ≤ z.d.f ∧ z.d.f ≤ 4095) (hq : ((allS l X root n (m + nc) (L ++ mapsK m z.d.f nc)).1, (allS l X root n (m + nc) (L ++ mapsK m z.d.f nc)).2 == 0) = q) (x0 : RbX) (hI : RbX.I f l c X root b2 q n m L z nc b9 w0 x0 a W) (hQr : ∀ a w, bodyPost Tryz.prog Tryz.f17 (fun e w' => ∃ f c, e = .returned (.tuple #[.slice f q.1.length c, .bool q.2]) ∧ OwnR KMm w' w0.heap.size (.slice f q.1.length c) q.1 ∧ Below w0.heap.size w0 w') .ret a w → Q .ret a w) (hQn : ∀ a w, (∃ x : RaX, RaX.I f l c X root b2 q w0 x a w ∧ x.n < n + 1) → Q .normal a w) : wpI Tryz.prog Q (.code (nthLoop Tryz.f17 1) :: restAt Tryz.f17 1) .normal a W := by
  rw [show nthLoop Tryz.f17 1 = .loop (bodyOf (nthLoop Tryz.f17 1)) from by kernel_rfl]
  refine wp_lp (fun x a w => RbX.I f l c X root b2 q n m L z nc b9 w0 x a w) (fun x => nc - x.j) x0 hI fun x a w hI => ?_
  obtain ⟨j, g, k⟩ := x
  obtain ⟨hj, hT, hF⟩ := hI
  simp only at hj hT hF
  by_cases hlt : j < nc
  · have hd : decide ((j : Int) < ((nc : Nat) : Int)) = true := decide_eq_true (by omega)
    have hjw : IntKind.i64.wrap ((j : Int) + 1) = ((j + 1 : Nat) : Int) := (IntWalk.i64_in _ (by omega)).trans (by omega)
    exact wp_ex mixedT Tryz.f17 [(1, .int .i64 root), (2, .pointer (some ⟨b2, 0, none⟩)), (6, .slice g (L ++ mapsK m z.d.f j).length k), (7, .int .i64 m), (9, .pointer (some ⟨b9, 0, none⟩)), (12, .int .i64 ((nc : Nat) : Int)), (13, .int .i64 j)] [⟨b2, 0, 24, [.slice f l c], .own⟩, ownFx KMm.t KMm.N g (L ++ mapsK m z.d.f j).length k (rcells KMm (L ++ mapsK m z.d.f j)), ⟨b9, 0, 37, (dscC z.d), .own⟩] (.r 10 [(2, .rw (fun _ => .bool (decide ((j : Int) < ((nc : Nat) : Int)))) (fun _ => .bool true))] (.r 12 [(3, .rw (fun _ => .int .i64 (IntKind.i64.wrap (m + j))) (fun _ => .int .i64 (m + j))), a1 5 2 1, (7, .rw (fun _ => .int .i64 (IntKind.i64.wrap (z.d.f + j))) (fun _ => .int .i64 (z.d.f + j))), (10, .opc (.call ⟨.builtin .append, #[(.tmp 37), (.tmp 46)], #[43, 43]⟩) (fun E => [.slice g (L ++ mapsK m z.d.f j).length k, .slice (some ⟨E.b 3, 0, none⟩) 1 1]) (fun E => .slice (E.f 4) (L ++ mapsK m z.d.f (j + 1)).length (E.b 4)) [(1, (fun _ => ownFx KMm.t KMm.N g (L ++ mapsK m z.d.f j).length k (rcells KMm (L ++ mapsK m z.d.f j)))), (3, (fun E => ⟨E.b 3, 0, 74, [.int .i64 (m + j), .int .i64 (z.d.f + j)], .own⟩))] [(1, fun _ => noBx)] 4 [fun E => OwnP KMm.t KMm.N (E.f 4) (L ++ mapsK m z.d.f (j + 1)).length (E.b 4) (rcells KMm (L ++ mapsK m z.d.f (j + 1)))])] (.r 11 [(1, .rw (fun _ => .int .i64 (IntKind.i64.wrap (j + 1))) (fun _ => .int .i64 ((j + 1 : Nat) : Int)))] (.out none (fun E => [(1, .int .i64 root), (2, .pointer (some ⟨b2, 0, none⟩)), (6, .slice (E.f 4) (L ++ mapsK m z.d.f (j + 1)).length (E.b 4)), (7, .int .i64 m), (9, .pointer (some ⟨b9, 0, none⟩)), (12, .int .i64 ((nc : Nat) : Int)), (13, .int .i64 ((j + 1 : Nat) : Int))]) [(0, (fun _ => ⟨b2, 0, 24, [.slice f l c], .own⟩)), (4, (fun E => ownFx KMm.t KMm.N (E.f 4) (L ++ mapsK m z.d.f (j + 1)).length (E.b 4) (rcells KMm (L ++ mapsK m z.d.f (j + 1))))), (2, (fun _ => ⟨b9, 0, 37, (dscC z.d), .own⟩))])))) hT hF (⟨fun _ => congrArg Value.bool hd, fun _ => by rw [IntWalk.i64_in _ (by omega)], fun _ => by rw [IntWalk.i64_in _ (by omega)], fun E W ρ o ho hx hk hp => by rw [show L ++ mapsK m z.d.f (j + 1) = (L ++ mapsK m z.d.f j) ++ [(m + (j : Int), z.d.f + (j : Int))] from by rw [mapsK, List.append_assoc]]; exact pushQ_opc (K := KMm) (q := (m + (j : Int), z.d.f + (j : Int))) ho hx hk hp.1 rfl (by rw [List.length_append, mapsK_len]; omega), fun _ => by rw [hjw], fun E _ _ hT1 hF1 => ⟨⟨j + 1, E.f 4, E.b 4⟩, ⟨(show j + 1 ≤ nc by omega), hT1, by exact hF1⟩, by (show nc - (j + 1) < nc - j; omega)⟩⟩) (R := (fun e w' => ∃ f c, e = .returned (.tuple #[.slice f q.1.length c, .bool q.2]) ∧ OwnR KMm w' w0.heap.size (.slice f q.1.length c) q.1 ∧ Below w0.heap.size w0 w')) (J := fun ze a' w' => match ze with | .normal => ∃ x' : RbX, RbX.I f l c X root b2 q n m L z nc b9 w0 x' a' w' ∧ (nc - x'.j) < (nc - j) | ze => wpI Tryz.prog Q (restAt Tryz.f17 1) ze a' w') (fun _ _ h => wpI_ret (hQr _ _ h)) (fun e _ _ h => by cases e <;> exact h) (fun _ => by kernel_rfl)
  · have hd : decide ((j : Int) < ((nc : Nat) : Int)) = false := decide_eq_false (by omega)
    exact wp_ex mixedT Tryz.f17 [(1, .int .i64 root), (2, .pointer (some ⟨b2, 0, none⟩)), (6, .slice g (L ++ mapsK m z.d.f j).length k), (7, .int .i64 m), (9, .pointer (some ⟨b9, 0, none⟩)), (12, .int .i64 ((nc : Nat) : Int)), (13, .int .i64 j)] [⟨b2, 0, 24, [.slice f l c], .own⟩, ownFx KMm.t KMm.N g (L ++ mapsK m z.d.f j).length k (rcells KMm (L ++ mapsK m z.d.f j)), ⟨b9, 0, 37, (dscC z.d), .own⟩] (.r 10 [(2, .rw (fun _ => .bool (decide ((j : Int) < ((nc : Nat) : Int)))) (fun _ => .bool false))] (.out (some 2) (fun _ => [(1, .int .i64 root), (2, .pointer (some ⟨b2, 0, none⟩)), (6, .slice g (L ++ mapsK m z.d.f j).length k), (7, .int .i64 m), (9, .pointer (some ⟨b9, 0, none⟩)), (12, .int .i64 ((nc : Nat) : Int)), (13, .int .i64 j)]) [(0, (fun _ => ⟨b2, 0, 24, [.slice f l c], .own⟩)), (1, (fun _ => ownFx KMm.t KMm.N g (L ++ mapsK m z.d.f j).length k (rcells KMm (L ++ mapsK m z.d.f j)))), (2, (fun _ => ⟨b9, 0, 37, (dscC z.d), .own⟩))])) hT hF (⟨fun _ => congrArg Value.bool hd, fun E a w hT1 hF1 => ra_in_rest f l c X root b2 q n m L z nc b9 m0 m9 hn hL hnc hdf hq j g k (by omega) hT1 hF1 hQr hQn⟩) (R := (fun e w' => ∃ f c, e = .returned (.tuple #[.slice f q.1.length c, .bool q.2]) ∧ OwnR KMm w' w0.heap.size (.slice f q.1.length c) q.1 ∧ Below w0.heap.size w0 w')) (J := fun ze a' w' => match ze with | .normal => ∃ x' : RbX, RbX.I f l c X root b2 q n m L z nc b9 w0 x' a' w' ∧ (nc - x'.j) < (nc - j) | ze => wpI Tryz.prog Q (restAt Tryz.f17 1) ze a' w') (fun _ _ h => wpI_ret (hQr _ _ h)) (fun e _ _ h => by cases e <;> exact h) (fun _ => by kernel_rfl)
theorem ra_loop_rest (f : Option Addr) (l c : Nat) (X : Nat → BitVec 64) (root : Int) (b2 : Nat) (q : List (Int × Int) × Bool) {w0 W : World} {a : Act} {Q : Exit → Act → World → Prop} (hX : WordsAt w0 f l X) (hM : okM l = true) (m : Int) (L : List (Int × Int)) (g : Option Addr) (k : Nat) (hz : (L, true) = q)
    (hT : Has Tryz.f17.ntmps [(1, .int .i64 root), (2, .pointer (some ⟨b2, 0, none⟩)), (6, .slice g L.length k), (7, .int .i64 m)] a) (hF : Fits [] w0 [⟨b2, 0, 24, [.slice f l c], .own⟩, ownFx KMm.t KMm.N g L.length k (rcells KMm L)] W) (hQr : ∀ a w, bodyPost Tryz.prog Tryz.f17 (fun e w' => ∃ f c, e = .returned (.tuple #[.slice f q.1.length c, .bool q.2]) ∧ OwnR KMm w' w0.heap.size (.slice f q.1.length c) q.1 ∧ Below w0.heap.size w0 w') .ret a w → Q .ret a w) : wpI Tryz.prog Q (restAt Tryz.f17 0) (.exit 0) a W := by
  exact wpI_pop (k' := popD 0 (restAt Tryz.f17 0)) (by kernel_rfl) (wpI_ex mixedT Tryz.f17 (popD 0 (restAt Tryz.f17 0)) [(1, .int .i64 root), (2, .pointer (some ⟨b2, 0, none⟩)), (6, .slice g L.length k), (7, .int .i64 m)] [⟨b2, 0, 24, [.slice f l c], .own⟩, ownFx KMm.t KMm.N g L.length k (rcells KMm L)] (.fin [] (fun _ => .tuple #[.slice g L.length k, .bool true]) [(1, (fun _ => ownFx KMm.t KMm.N g L.length k (rcells KMm L)))]) hT hF (fun E W hk hp => by subst hz; exact ⟨g, k, rfl, own_base (hp.1 _ (List.mem_singleton.2 rfl)), hk.below⟩) (R := (fun e w' => ∃ f c, e = .returned (.tuple #[.slice f q.1.length c, .bool q.2]) ∧ OwnR KMm w' w0.heap.size (.slice f q.1.length c) q.1 ∧ Below w0.heap.size w0 w')) (J := fun _ _ _ => False) hQr (fun _ _ _ h => h.elim) (fun _ => by kernel_rfl))
set_option maxRecDepth 100000 in
theorem ra_loop (f : Option Addr) (l c : Nat) (X : Nat → BitVec 64) (root : Int) (b2 : Nat) (q : List (Int × Int) × Bool) {w0 W : World} {a : Act} {Q : Exit → Act → World → Prop} (hX : WordsAt w0 f l X) (hM : okM l = true) (x0 : RaX) (hI : RaX.I f l c X root b2 q w0 x0 a W) (hQr : ∀ a w, bodyPost Tryz.prog Tryz.f17 (fun e w' => ∃ f c, e = .returned (.tuple #[.slice f q.1.length c, .bool q.2]) ∧ OwnR KMm w' w0.heap.size (.slice f q.1.length c) q.1 ∧ Below w0.heap.size w0 w') .ret a w → Q .ret a w) : wpI Tryz.prog Q (.code (nthLoop Tryz.f17 0) :: restAt Tryz.f17 0) .normal a W := by
  rw [show nthLoop Tryz.f17 0 = .loop (bodyOf (nthLoop Tryz.f17 0)) from by kernel_rfl]
  refine wp_lp (fun x a w => RaX.I f l c X root b2 q w0 x a w) (fun x => x.n) x0 hI fun x a w hI => ?_
  obtain ⟨n, m, L, g, k⟩ := x
  obtain ⟨m0, m9, hn, hL, hq, hT, hF⟩ := hI
  simp only at m0 m9 hn hL hq hT hF
  by_cases hlt : m ≤ 4095
  · have hd : decide ((m : Int) ≤ 4095) = true := decide_eq_true hlt
    obtain ⟨n, rfl⟩ : ∃ n', n = n' + 1 := ⟨n - 1, by omega⟩
    obtain ⟨z, hz⟩ : ∃ z, wayA l X root m 3 = z := ⟨_, rfl⟩
    have hm9 : mayW l m = true := by unfold mayW; rw [hM, numB_iff.2 ⟨m0, hlt⟩]; rfl
    rw [allS, if_neg (by omega), hz] at hq
    obtain ⟨hok, _, hP4, hP0⟩ := wayA_ok hz
    have he2 := way_e hm9 hz
    have hl4 := way_lv4 hm9 hz
    have hc := cov_pos z.lv
    obtain ⟨nc, hnc⟩ : ∃ n : Nat, cov z.lv = (n : Int) := ⟨(cov z.lv).toNat, by omega⟩
    have hnc9 : 1 ≤ nc ∧ nc ≤ 512 := by omega
    have hdf : 0 ≤ z.d.f ∧ z.d.f ≤ 4095 := by
      by_cases he : z.e = 0
      · rw [(hok he).d]; exact tbl_frame X 2 z.lv z.fr m
      · rw [way_dz hz he]; exact ⟨by decide, by decide⟩
    rcases Bool.eq_false_or_eq_true (z.e == 0) with hE | hE
    · rw [if_neg (by have h := hE; simp at h; simp [h])] at hq
      rcases Bool.eq_false_or_eq_true (z.d.k == 2) with hK | hK
      · rw [show mapsD m z.lv z.d = mapsK m z.d.f nc from by unfold mapsD; rw [if_pos (by simpa using hK), hnc]; rfl, hnc] at hq
        exact wp_ex mixedT Tryz.f17 [(1, .int .i64 root), (2, .pointer (some ⟨b2, 0, none⟩)), (6, .slice g L.length k), (7, .int .i64 m)] [⟨b2, 0, 24, [.slice f l c], .own⟩, ownFx KMm.t KMm.N g L.length k (rcells KMm L)] (.r 3 [(1, .rw (fun _ => .bool (decide ((m : Int) ≤ 4095))) (fun _ => .bool true))] (.r 4 [a1 0 0 0, (3, .callg 23 (fun _ => [.agg #[.slice f l c], .int .i64 root, .int .i64 m]) (fun E => .tuple #[.slice (E.f 2) (refP z).length (E.b 2), dscV z.d, .int .i64 z.lv, .bool (z.e == 0)]) [] [] 2 [fun E => OwnP 3 1 (E.f 2) (refP z).length (E.b 2) (icells (refP z))]), aN 11 3 0 9] (.r 5 [(1, .rw (fun _ => .bool (!(z.e == 0))) (fun _ => .bool false))] (.r 7 [(1, .call 22 (fun _ => [.int .i64 z.lv]) (fun _ => .int .i64 ((nc : Nat) : Int)))] (.r 8 [a1 1 3 0, (2, .rw (fun _ => .bool (z.d.k == 2)) (fun _ => .bool true))] (.lp (restAt Tryz.f17 1) (nthLoop Tryz.f17 1) (fun E => [(1, .int .i64 root), (2, .pointer (some ⟨b2, 0, none⟩)), (6, .slice g L.length k), (7, .int .i64 m), (9, .pointer (some ⟨E.b 3, 0, none⟩)), (12, .int .i64 ((nc : Nat) : Int)), (13, .int .i64 0)]) [(0, (fun _ => ⟨b2, 0, 24, [.slice f l c], .own⟩)), (1, (fun _ => ownFx KMm.t KMm.N g L.length k (rcells KMm L))), (3, (fun E => ⟨E.b 3, 0, 37, (dscC z.d), .own⟩))])))))) hT hF (⟨fun _ => congrArg Value.bool hd, fun E W hk hp => (rway_any f l c X root m z W (hX.keep0 hk) hm9 hz).mono fun e w' h => by obtain ⟨f', c', he, h1, h2⟩ := h; exact GPost.own1 hk h2 h1 (by rw [he]; rfl), fun _ => congrArg (fun bJ => Value.bool (!bJ)) hE, fun _ W _ => by rw [← hnc]; exact rcovers_any z.lv W hl4.1 hl4.2, fun _ => congrArg Value.bool hK, fun E a w hT1 hF1 Q' hQr' hQj => ra_in f l c X root b2 q n m L z nc (E.b 3) m0 hlt hn hL hnc9 hdf hq ⟨0, g, k⟩ ⟨Nat.zero_le _, by simp only [mapsK, List.append_nil]; exact hT1, by simp only [mapsK, List.append_nil]; exact hF1⟩ hQr' (fun a w h => hQj none a w h)⟩) (R := (fun e w' => ∃ f c, e = .returned (.tuple #[.slice f q.1.length c, .bool q.2]) ∧ OwnR KMm w' w0.heap.size (.slice f q.1.length c) q.1 ∧ Below w0.heap.size w0 w')) (J := fun ze a' w' => match ze with | .normal => ∃ x' : RaX, RaX.I f l c X root b2 q w0 x' a' w' ∧ (x'.n) < (n + 1) | ze => wpI Tryz.prog Q (restAt Tryz.f17 0) ze a' w') (fun _ _ h => wpI_ret (hQr _ _ h)) (fun e _ _ h => by cases e <;> exact h) (fun _ => by kernel_rfl)
      · rw [show mapsD m z.lv z.d = [] from by unfold mapsD; rw [if_neg (by simpa using hK)], List.append_nil, hnc] at hq
        exact wp_ex mixedT Tryz.f17 [(1, .int .i64 root), (2, .pointer (some ⟨b2, 0, none⟩)), (6, .slice g L.length k), (7, .int .i64 m)] [⟨b2, 0, 24, [.slice f l c], .own⟩, ownFx KMm.t KMm.N g L.length k (rcells KMm L)] (.r 3 [(1, .rw (fun _ => .bool (decide ((m : Int) ≤ 4095))) (fun _ => .bool true))] (.r 4 [a1 0 0 0, (3, .callg 23 (fun _ => [.agg #[.slice f l c], .int .i64 root, .int .i64 m]) (fun E => .tuple #[.slice (E.f 2) (refP z).length (E.b 2), dscV z.d, .int .i64 z.lv, .bool (z.e == 0)]) [] [] 2 [fun E => OwnP 3 1 (E.f 2) (refP z).length (E.b 2) (icells (refP z))]), aN 11 3 0 9] (.r 5 [(1, .rw (fun _ => .bool (!(z.e == 0))) (fun _ => .bool false))] (.r 7 [(1, .call 22 (fun _ => [.int .i64 z.lv]) (fun _ => .int .i64 ((nc : Nat) : Int)))] (.r 8 [a1 1 3 0, (2, .rw (fun _ => .bool (z.d.k == 2)) (fun _ => .bool false))] (.r 13 [(2, .rw (fun _ => .int .i64 (IntKind.i64.wrap (m + ((nc : Nat) : Int)))) (fun _ => .int .i64 (m + ((nc : Nat) : Int))))] (.out none (fun _ => [(1, .int .i64 root), (2, .pointer (some ⟨b2, 0, none⟩)), (6, .slice g L.length k), (7, .int .i64 (m + ((nc : Nat) : Int)))]) [(0, (fun _ => ⟨b2, 0, 24, [.slice f l c], .own⟩)), (1, (fun _ => ownFx KMm.t KMm.N g L.length k (rcells KMm L)))]))))))) hT hF (⟨fun _ => congrArg Value.bool hd, fun E W hk hp => (rway_any f l c X root m z W (hX.keep0 hk) hm9 hz).mono fun e w' h => by obtain ⟨f', c', he, h1, h2⟩ := h; exact GPost.own1 hk h2 h1 (by rw [he]; rfl), fun _ => congrArg (fun bJ => Value.bool (!bJ)) hE, fun _ W _ => by rw [← hnc]; exact rcovers_any z.lv W hl4.1 hl4.2, fun _ => congrArg Value.bool hK, fun _ => by rw [IntWalk.i64_in _ (by omega)], fun E _ _ hT1 hF1 => ⟨⟨n, m + nc, L, g, k⟩, ⟨(show 0 ≤ m + (nc : Int) by omega), (show m + (nc : Int) ≤ 4607 by omega), (show 4096 ≤ m + (nc : Int) + (n : Int) by omega), (show (L.length : Int) ≤ m + (nc : Int) by omega), hq, hT1, by exact hF1⟩, by (show n < n + 1; omega)⟩⟩) (R := (fun e w' => ∃ f c, e = .returned (.tuple #[.slice f q.1.length c, .bool q.2]) ∧ OwnR KMm w' w0.heap.size (.slice f q.1.length c) q.1 ∧ Below w0.heap.size w0 w')) (J := fun ze a' w' => match ze with | .normal => ∃ x' : RaX, RaX.I f l c X root b2 q w0 x' a' w' ∧ (x'.n) < (n + 1) | ze => wpI Tryz.prog Q (restAt Tryz.f17 0) ze a' w') (fun _ _ h => wpI_ret (hQr _ _ h)) (fun e _ _ h => by cases e <;> exact h) (fun _ => by kernel_rfl)
    · exact wp_ex mixedT Tryz.f17 [(1, .int .i64 root), (2, .pointer (some ⟨b2, 0, none⟩)), (6, .slice g L.length k), (7, .int .i64 m)] [⟨b2, 0, 24, [.slice f l c], .own⟩, ownFx KMm.t KMm.N g L.length k (rcells KMm L)] (.r 3 [(1, .rw (fun _ => .bool (decide ((m : Int) ≤ 4095))) (fun _ => .bool true))] (.r 4 [a1 0 0 0, (3, .callg 23 (fun _ => [.agg #[.slice f l c], .int .i64 root, .int .i64 m]) (fun E => .tuple #[.slice (E.f 2) (refP z).length (E.b 2), dscV z.d, .int .i64 z.lv, .bool (z.e == 0)]) [] [] 2 [fun E => OwnP 3 1 (E.f 2) (refP z).length (E.b 2) (icells (refP z))]), aN 11 3 0 9] (.r 5 [(1, .rw (fun _ => .bool (!(z.e == 0))) (fun _ => .bool true))] (.fin [] (fun _ => .tuple #[.slice none 0 0, .bool false]) [])))) hT hF (⟨fun _ => congrArg Value.bool hd, fun E W hk hp => (rway_any f l c X root m z W (hX.keep0 hk) hm9 hz).mono fun e w' h => by obtain ⟨f', c', he, h1, h2⟩ := h; exact GPost.own1 hk h2 h1 (by rw [he]; rfl), fun _ => congrArg (fun bJ => Value.bool (!bJ)) hE, fun _ _ hk _ => by rw [if_pos (by rcases he2 with h | h; (exact absurd h (by simpa using hE)); (rw [h]; decide))] at hq; subst hq; exact ⟨none, 0, by rw [show (z.e == 0) = false from hE]; rfl, World.ownsRow_nil _ _ _ _, hk.below⟩⟩) (R := (fun e w' => ∃ f c, e = .returned (.tuple #[.slice f q.1.length c, .bool q.2]) ∧ OwnR KMm w' w0.heap.size (.slice f q.1.length c) q.1 ∧ Below w0.heap.size w0 w')) (J := fun ze a' w' => match ze with | .normal => ∃ x' : RaX, RaX.I f l c X root b2 q w0 x' a' w' ∧ (x'.n) < (n + 1) | ze => wpI Tryz.prog Q (restAt Tryz.f17 0) ze a' w') (fun _ _ h => wpI_ret (hQr _ _ h)) (fun e _ _ h => by cases e <;> exact h) (fun _ => by kernel_rfl)
  · have hd : decide ((m : Int) ≤ 4095) = false := decide_eq_false hlt
    have hq2 : (L, true) = q := by
      cases n with
      | zero => exact hq
      | succ n => rw [allS, if_pos (by omega)] at hq; exact hq
    exact wp_ex mixedT Tryz.f17 [(1, .int .i64 root), (2, .pointer (some ⟨b2, 0, none⟩)), (6, .slice g L.length k), (7, .int .i64 m)] [⟨b2, 0, 24, [.slice f l c], .own⟩, ownFx KMm.t KMm.N g L.length k (rcells KMm L)] (.r 3 [(1, .rw (fun _ => .bool (decide ((m : Int) ≤ 4095))) (fun _ => .bool false))] (.out (some 0) (fun _ => [(1, .int .i64 root), (2, .pointer (some ⟨b2, 0, none⟩)), (6, .slice g L.length k), (7, .int .i64 m)]) [(0, (fun _ => ⟨b2, 0, 24, [.slice f l c], .own⟩)), (1, (fun _ => ownFx KMm.t KMm.N g L.length k (rcells KMm L)))])) hT hF (⟨fun _ => congrArg Value.bool hd, fun E a w hT1 hF1 => ra_loop_rest f l c X root b2 q hX hM m L g k hq2 hT1 hF1 hQr⟩) (R := (fun e w' => ∃ f c, e = .returned (.tuple #[.slice f q.1.length c, .bool q.2]) ∧ OwnR KMm w' w0.heap.size (.slice f q.1.length c) q.1 ∧ Below w0.heap.size w0 w')) (J := fun ze a' w' => match ze with | .normal => ∃ x' : RaX, RaX.I f l c X root b2 q w0 x' a' w' ∧ (x'.n) < (n) | ze => wpI Tryz.prog Q (restAt Tryz.f17 0) ze a' w') (fun _ _ h => wpI_ret (hQr _ _ h)) (fun e _ _ h => by cases e <;> exact h) (fun _ => by kernel_rfl)
def EndAllB (w : World) (q : List (Int × Int) × Bool) (e : Ending) (w' : World) : Prop :=
  ∃ f c, e = .returned (.tuple #[.slice f q.1.length c, .bool q.2]) ∧ OwnR KMm w' w.heap.size (.slice f q.1.length c) q.1 ∧ Below w.heap.size w w'
theorem rall_any (f : Option Addr) (l c : Nat) (X : Nat → BitVec 64) (root : Int) (w : World) (hX : WordsAt w f l X) (hM : okM l = true) :
    Calls Tryz.prog 17 #[.agg #[.slice f l c], .int .i64 root] w (EndAllB w ((allA l X root).1, (allA l X root).2 == 0)) := by
  exact calls_ex mixedT [] (.lp (restAt Tryz.f17 0) (nthLoop Tryz.f17 0) (fun E => [(1, .int .i64 root), (2, .pointer (some ⟨E.b 0, 0, none⟩)), (6, .slice none 0 0), (7, .int .i64 0)]) [(0, (fun E => ⟨E.b 0, 0, 24, [.slice f l c], .own⟩))]) Tryz.func17 rfl (Fits.nil w) (fun E a W hT hF Q hQr _ => ra_loop f l c X root (E.b 0) ((allA l X root).1, (allA l X root).2 == 0) hX hM ⟨4097, 0, [], none, 0⟩ ⟨Int.le_refl 0, (by decide), (by decide), (by decide), rfl, hT, by exact hF.nilrow _ _⟩ hQr) rfl (fun _ => by kernel_rfl)
end Go.Proofs.YtbhnjaajkolklaaGreat
