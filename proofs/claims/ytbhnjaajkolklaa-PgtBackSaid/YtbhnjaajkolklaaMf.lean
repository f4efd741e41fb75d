/- Stage 16: package pgt: All: contract. -/
import Derived.Test.YtbhnjaajkolklaaMe
set_option linter.all false
namespace Go.Proofs.Ytbhnjaajkolklaa
open Go.ChangeShapes Go.WideShapes Go.ChangeAt Go.RowKit Go.Deep

/-- All that tables map, from a page on. -/
def allS (l : Nat) (X : Nat → BitVec 64) (root : Int) : Nat → Int → List (Int × Int) → List (Int × Int) × Int
  | 0, _, L => (L, 0)
  | n + 1, m, L => if 4095 < m then (L, 0) else if (wayA l X root m 3).e ≠ 0 then ([], (wayA l X root m 3).e)
    else allS l X root n (m + cov (wayA l X root m 3).lv) (L ++ mapsD m (wayA l X root m 3).lv (wayA l X root m 3).d)
def allA (l : Nat) (X : Nat → BitVec 64) (root : Int) : List (Int × Int) × Int := allS l X root 4097 0 []
theorem mapsD_le (mid lv : Int) (d : Dsc) : ((mapsD mid lv d).length : Int) ≤ cov lv := by
  have := cov_pos lv
  unfold mapsD
  split
  · rw [mapsK_len]; omega
  · simp; omega
theorem way_dz {l : Nat} {X : Nat → BitVec 64} {root mid dp : Int} {z : WayR} (hz : wayA l X root mid dp = z) (he : z.e ≠ 0) : z.d = dz := by
  subst hz
  unfold wayA at he ⊢
  split
  · rename_i hm
    rw [if_pos hm] at he
    have key : ∀ (n : Nat) (lv fr : Int) (R : List Int), (wayS l (fun lv f => tblD X 2 lv f mid) dp n lv fr R).e ≠ 0 → (wayS l (fun lv f => tblD X 2 lv f mid) dp n lv fr R).d = dz := by
      intro n
      induction n with
      | zero => intro lv fr R _; rfl
      | succ n ih =>
        intro lv fr R h
        unfold wayS at h ⊢
        split
        · rfl
        · rename_i h1
          rw [if_neg h1] at h
          split
          · rename_i h2
            rw [if_pos h2] at h
            exact ih _ _ _ h
          · rename_i h2
            rw [if_neg h2] at h
            exact absurd rfl h
    exact key 4 0 root [] he
  · rfl
def EndAll (w : World) (q : List (Int × Int) × Int) (e : Ending) (w' : World) : Prop :=
  ∃ f c, e = .returned (.tuple #[.slice f q.1.length c, .int .i64 q.2]) ∧ OwnR KMm w' w.heap.size (.slice f q.1.length c) q.1 ∧ Below w.heap.size w w'
structure PaX where
  n : Nat
  m : Int
  L : List (Int × Int)
  g : Option Addr
  k : Nat
def PaX.I (f : Option Addr) (l c : Nat) (X : Nat → BitVec 64) (root : Int) (b2 : Nat) (q : List (Int × Int) × Int) (w0 : World) (x : PaX) (a : Act) (w : World) : Prop := (0 ≤ x.m) ∧ (x.m ≤ 4607) ∧ (4096 ≤ x.m + x.n) ∧ ((x.L.length : Int) ≤ x.m) ∧ (allS l X root x.n x.m x.L = q) ∧ Has Try.f11.ntmps [(1, .int .i64 root), (2, .pointer (some ⟨b2, 0, none⟩)), (6, .slice x.g x.L.length x.k), (7, .int .i64 x.m)] a ∧ Fits [] w0 [⟨b2, 0, 24, [.slice f l c], .own⟩, ownFx KMm.t KMm.N x.g x.L.length x.k (rcells KMm x.L)] w
theorem pa_loop_rest (f : Option Addr) (l c : Nat) (X : Nat → BitVec 64) (root : Int) (b2 : Nat) (q : List (Int × Int) × Int) {w0 W : World} {a : Act} {Q : Exit → Act → World → Prop} (hX : WordsAt w0 f l X) (hl : l ≤ 100000) (hlc : l ≤ c) (m : Int) (L : List (Int × Int)) (g : Option Addr) (k : Nat) (hz : (L, 0) = q)
    (hT : Has Try.f11.ntmps [(1, .int .i64 root), (2, .pointer (some ⟨b2, 0, none⟩)), (6, .slice g L.length k), (7, .int .i64 m)] a) (hF : Fits [] w0 [⟨b2, 0, 24, [.slice f l c], .own⟩, ownFx KMm.t KMm.N g L.length k (rcells KMm L)] W) (hQr : ∀ a w, bodyPost Try.prog Try.f11 (EndAll w0 q) .ret a w → Q .ret a w) : wpI Try.prog Q (restAt Try.f11 0) (.exit 0) a W := by
  exact wpI_pop (k' := popD 0 (restAt Try.f11 0)) (by kernel_rfl) (wpI_ex mixedT Try.f11 (popD 0 (restAt Try.f11 0)) [(1, .int .i64 root), (2, .pointer (some ⟨b2, 0, none⟩)), (6, .slice g L.length k), (7, .int .i64 m)] [⟨b2, 0, 24, [.slice f l c], .own⟩, ownFx KMm.t KMm.N g L.length k (rcells KMm L)] (.fin [] (fun _ => .tuple #[.slice g L.length k, .int .i64 0]) [(1, (fun _ => ownFx KMm.t KMm.N g L.length k (rcells KMm L)))]) hT hF (fun E W hk hp => by subst hz; exact ⟨g, k, rfl, own_base (hp.1 _ (List.mem_singleton.2 rfl)), hk.below⟩) (R := (EndAll w0 q)) (J := fun _ _ _ => False) hQr (fun _ _ _ h => h.elim) (fun _ => by kernel_rfl))
set_option maxRecDepth 100000 in
theorem pa_loop (f : Option Addr) (l c : Nat) (X : Nat → BitVec 64) (root : Int) (b2 : Nat) (q : List (Int × Int) × Int) {w0 W : World} {a : Act} {Q : Exit → Act → World → Prop} (hX : WordsAt w0 f l X) (hl : l ≤ 100000) (hlc : l ≤ c) (x0 : PaX) (hI : PaX.I f l c X root b2 q w0 x0 a W) (hQr : ∀ a w, bodyPost Try.prog Try.f11 (EndAll w0 q) .ret a w → Q .ret a w) : wpI Try.prog Q (.code (nthLoop Try.f11 0) :: restAt Try.f11 0) .normal a W := by
  rw [show nthLoop Try.f11 0 = .loop (bodyOf (nthLoop Try.f11 0)) from by kernel_rfl]
  refine wp_lp (fun x a w => PaX.I f l c X root b2 q w0 x a w) (fun x => x.n) x0 hI fun x a w hI => ?_
  obtain ⟨n, m, L, g, k⟩ := x
  obtain ⟨m0, m9, hn, hL, hq, hT, hF⟩ := hI
  simp only at m0 m9 hn hL hq hT hF
  by_cases hlt : m ≤ 4095
  · have hd : decide ((m : Int) ≤ 4095) = true := decide_eq_true hlt
    obtain ⟨n, rfl⟩ : ∃ n', n = n' + 1 := ⟨n - 1, by omega⟩
    obtain ⟨z, hz⟩ : ∃ z, wayA l X root m 3 = z := ⟨_, rfl⟩
    rw [allS, if_neg (by omega), hz] at hq
    obtain ⟨hok, _, hP4, hP0⟩ := wayA_ok hz
    have hc := cov_pos z.lv
    have m1 : m ≤ 4095 := hlt
    have hdf : 0 ≤ z.d.f ∧ z.d.f ≤ 4095 := by
      by_cases he : z.e = 0
      · rw [(hok he).d]; exact tbl_frame X 2 z.lv z.fr m
      · have : z.d = dz := way_dz hz he
        rw [this]; exact ⟨by decide, by decide⟩
    exact wp_ex mixedT Try.f11 [(1, .int .i64 root), (2, .pointer (some ⟨b2, 0, none⟩)), (6, .slice g L.length k), (7, .int .i64 m)] [⟨b2, 0, 24, [.slice f l c], .own⟩, ownFx KMm.t KMm.N g L.length k (rcells KMm L)] (.r 3 [(1, .rw (fun _ => .bool (decide ((m : Int) ≤ 4095))) (fun _ => .bool true))] (.r 4 [a1 0 0 0, (3, .callg 15 (fun _ => [.agg #[.slice f l c], .int .i64 root, .int .i64 m, .int .i64 3]) (fun E => .tuple #[.agg #[.slice f l c, .int .i64 z.fr, .int .i64 z.lv, .int .i64 z.d.k, .int .i64 z.d.f, .bool z.d.r, .bool z.d.w, .bool z.d.x, .bool z.d.a, .bool z.d.n, .int .i64 z.d.s, .int .i64 z.d.o, .int .i64 m, .slice (E.f 2) z.P.length (E.b 2)], .int .i64 z.e]) [] [] 2 [fun E => OwnP 3 1 (E.f 2) z.P.length (E.b 2) (icells z.P)]), aN 8 3 0 14] (.split (z.e != 0) (.fin [] (fun _ => .tuple #[.slice none 0 0, .int .i64 z.e]) []) (.r 7 [(1, .callg 25 (fun E => [.pointer (some ⟨E.b 3, 0, none⟩)]) (fun E => .slice (E.f 4) (mapsD m z.lv z.d).length (E.b 4)) [(3, (fun E => ⟨E.b 3, 0, 60, wayL f l c z.fr z.lv z.d m (.slice (E.f 2) z.P.length (E.b 2)), .own⟩))] [] 4 [fun E => OwnP KMm.t KMm.N (E.f 4) (mapsD m z.lv z.d).length (E.b 4) (rcells KMm (mapsD m z.lv z.d))]), (2, .opc (.call ⟨.builtin .append, #[(.tmp 22), (.tmp 23)], #[49, 49]⟩) (fun E => [.slice g L.length k, .slice (E.f 4) (mapsD m z.lv z.d).length (E.b 4)]) (fun E => .slice (E.f 5) (L ++ (mapsD m z.lv z.d)).length (E.b 5)) [(1, (fun _ => ownFx KMm.t KMm.N g L.length k (rcells KMm L))), (4, (fun E => ownFx KMm.t KMm.N (E.f 4) (mapsD m z.lv z.d).length (E.b 4) (rcells KMm (mapsD m z.lv z.d))))] [(1, fun _ => noBx)] 5 [fun E => OwnP KMm.t KMm.N (E.f 5) (L ++ (mapsD m z.lv z.d)).length (E.b 5) (rcells KMm (L ++ (mapsD m z.lv z.d)))])] (.r 8 [a1 3 3 2, (4, .call 26 (fun _ => [.int .i64 z.lv]) (fun _ => .int .i64 (cov z.lv))), (5, .rw (fun _ => .int .i64 (IntKind.i64.wrap (m + (cov z.lv)))) (fun _ => .int .i64 (m + (cov z.lv))))] (.out none (fun E => [(1, .int .i64 root), (2, .pointer (some ⟨b2, 0, none⟩)), (6, .slice (E.f 5) (L ++ (mapsD m z.lv z.d)).length (E.b 5)), (7, .int .i64 (m + (cov z.lv)))]) [(0, (fun _ => ⟨b2, 0, 24, [.slice f l c], .own⟩)), (5, (fun E => ownFx KMm.t KMm.N (E.f 5) (L ++ (mapsD m z.lv z.d)).length (E.b 5) (rcells KMm (L ++ (mapsD m z.lv z.d)))))])))))) hT hF (⟨fun _ => congrArg Value.bool hd, fun E W hk hp => (pway_any f l c X root m 3 z W (hX.keep0 hk) hl hlc hz).mono fun e w' h => by obtain ⟨fR, cR, he, h1, h2⟩ := h; exact GPost.own1 hk h2 h1 (by rw [he]; rfl), fun hS1 => fun _ _ hk _ => by rw [if_pos (by have h := hS1; simpa using h)] at hq; subst hq; exact ⟨none, 0, rfl, World.ownsRow_nil _ _ _ _, hk.below⟩, fun hS1 => ⟨fun E W hk hp => (pmaps_any f l c z.fr z.lv z.d m _ _ W (Fits.row1 (hp.1 _ (List.mem_singleton.2 rfl)) _) (hok (by simpa using hS1)).l0 (hok (by simpa using hS1)).l1 hdf.1 hdf.2 m0 m1).mono fun e w' h => row_post hk h, fun E W ρ o ho hx hk hp => pushQR_opc (K := KMm) ho hx hk (hp.1 _ (List.mem_cons_self ..)) (hp.1 _ (List.mem_cons_of_mem _ (List.mem_singleton.2 rfl))).2.2.1 (by have := mapsD_len m z.lv z.d; omega), fun _ W _ => pcov_any z.lv W (hok (by simpa using hS1)).l0 (hok (by simpa using hS1)).l1, fun _ => by rw [IntWalk.i64_in _ (by omega)], fun E _ _ hT1 hF1 => ⟨⟨n, m + cov z.lv, L ++ mapsD m z.lv z.d, E.f 5, E.b 5⟩, ⟨(show 0 ≤ m + cov z.lv by omega), (show m + cov z.lv ≤ 4607 by omega), (show 4096 ≤ m + cov z.lv + (n : Int) by omega), (by simp only [List.length_append]; have := mapsD_le m z.lv z.d; omega), (by rw [if_neg (by have h := hS1; simpa using h)] at hq; exact hq), hT1, by exact hF1⟩, by (show n < n + 1; omega)⟩⟩⟩) (R := (EndAll w0 q)) (J := fun ze a' w' => match ze with | .normal => ∃ x' : PaX, PaX.I f l c X root b2 q w0 x' a' w' ∧ (x'.n) < (n + 1) | ze => wpI Try.prog Q (restAt Try.f11 0) ze a' w') (fun _ _ h => wpI_ret (hQr _ _ h)) (fun e _ _ h => by cases e <;> exact h) (fun _ => by kernel_rfl)
  · have hd : decide ((m : Int) ≤ 4095) = false := decide_eq_false hlt
    have hq2 : (L, 0) = q := by
      cases n with
      | zero => exact hq
      | succ n => rw [allS, if_pos (by omega)] at hq; exact hq
    exact wp_ex mixedT Try.f11 [(1, .int .i64 root), (2, .pointer (some ⟨b2, 0, none⟩)), (6, .slice g L.length k), (7, .int .i64 m)] [⟨b2, 0, 24, [.slice f l c], .own⟩, ownFx KMm.t KMm.N g L.length k (rcells KMm L)] (.r 3 [(1, .rw (fun _ => .bool (decide ((m : Int) ≤ 4095))) (fun _ => .bool false))] (.out (some 0) (fun _ => [(1, .int .i64 root), (2, .pointer (some ⟨b2, 0, none⟩)), (6, .slice g L.length k), (7, .int .i64 m)]) [(0, (fun _ => ⟨b2, 0, 24, [.slice f l c], .own⟩)), (1, (fun _ => ownFx KMm.t KMm.N g L.length k (rcells KMm L)))])) hT hF (⟨fun _ => congrArg Value.bool hd, fun E a w hT1 hF1 => pa_loop_rest f l c X root b2 q hX hl hlc m L g k hq2 hT1 hF1 hQr⟩) (R := (EndAll w0 q)) (J := fun ze a' w' => match ze with | .normal => ∃ x' : PaX, PaX.I f l c X root b2 q w0 x' a' w' ∧ (x'.n) < (n) | ze => wpI Try.prog Q (restAt Try.f11 0) ze a' w') (fun _ _ h => wpI_ret (hQr _ _ h)) (fun e _ _ h => by cases e <;> exact h) (fun _ => by kernel_rfl)
theorem pall_any (f : Option Addr) (l c : Nat) (X : Nat → BitVec 64) (root : Int) (w : World) (hX : WordsAt w f l X) (hl : l ≤ 100000) (hlc : l ≤ c) :
    Calls Try.prog 11 #[.agg #[.slice f l c], .int .i64 root] w (EndAll w (allA l X root)) := by
  exact calls_ex mixedT [] (.lp (restAt Try.f11 0) (nthLoop Try.f11 0) (fun E => [(1, .int .i64 root), (2, .pointer (some ⟨E.b 0, 0, none⟩)), (6, .slice none 0 0), (7, .int .i64 0)]) [(0, (fun E => ⟨E.b 0, 0, 24, [.slice f l c], .own⟩))]) Try.func11 rfl (Fits.nil w) (fun E a W hT hF Q hQr _ => pa_loop f l c X root (E.b 0) (allA l X root) hX hl hlc ⟨4097, 0, [], none, 0⟩ ⟨Int.le_refl 0, (by decide), (by decide), (by decide), rfl, hT, by exact hF.nilrow _ _⟩ hQr) rfl (fun _ => by kernel_rfl)
end Go.Proofs.Ytbhnjaajkolklaa
