/- Stage 16: package pgt: a walk of stage 2: contracts. -/
import Derived.Test.YtbhnjaajkolklaaGreatWu
import Derived.Test.YtbhnjaajkolklaaGreatMemF
import Derived.Test.YtbhnjaajkolklaaGreatMemH
set_option linter.all false
namespace Go.Proofs.YtbhnjaajkolklaaGreat
open Go.ChangeShapes Go.WideShapes Go.ChangeAt Go.RowKit Go.Deep

/-- A walk of stage 2, as deep as it may go: what it ends at, where, the tables on the way, the error. -/
structure WayR where
  d : Dsc
  lv : Int
  fr : Int
  P : List Int
  e : Int
def wayS (l : Nat) (T : Int → Int → Dsc) (dp : Int) : Nat → Int → Int → List Int → WayR
  | 0, lv, fr, R => ⟨dz, lv, fr, R, 0⟩
  | n + 1, lv, fr, R =>
    if hasB l fr = false then ⟨dz, lv, fr, R ++ [fr], 2⟩
    else if (T lv fr).k = 1 ∧ lv < dp then wayS l T dp n (lv + 1) (T lv fr).f (R ++ [fr])
    else ⟨T lv fr, lv, fr, R ++ [fr], 0⟩
def mayW (l : Nat) (mid : Int) : Bool := okM l && numB mid 4095
def wayD (l : Nat) (X : Nat → BitVec 64) (root mid dp : Int) : WayR := wayS l (fun lv f => tblD X 2 lv f mid) dp 4 0 root []
def wayA (l : Nat) (X : Nat → BitVec 64) (root mid dp : Int) : WayR := if mayW l mid = true then wayD l X root mid dp else ⟨dz, 0, root, [root], 1⟩
section
variable {l : Nat} {T : Int → Int → Dsc} {dp lv fr : Int} {n : Nat} {R : List Int}
theorem wayS_far (h : hasB l fr = false) : wayS l T dp (n + 1) lv fr R = ⟨dz, lv, fr, R ++ [fr], 2⟩ := by rw [wayS, if_pos h]
theorem wayS_on (h : hasB l fr = true) (hk : (T lv fr).k = 1 ∧ lv < dp) : wayS l T dp (n + 1) lv fr R = wayS l T dp n (lv + 1) (T lv fr).f (R ++ [fr]) := by rw [wayS, if_neg (by rw [h]; decide), if_pos hk]
theorem wayS_end (h : hasB l fr = true) (hk : ¬ ((T lv fr).k = 1 ∧ lv < dp)) : wayS l T dp (n + 1) lv fr R = ⟨T lv fr, lv, fr, R ++ [fr], 0⟩ := by rw [wayS, if_neg (by rw [h]; decide), if_neg hk]
end
theorem look_yes {l : Nat} {X : Nat → BitVec 64} {lv fr mid : Int} (h : mayW l mid = true) (l0 : 0 ≤ lv) (l1 : lv ≤ 3) : tableA l X 2 lv fr mid = if hasB l fr = true then (tblD X 2 lv fr mid, 0) else (dz, 2) := by
  rw [tableA_eq, if_pos]
  unfold mayW at h
  unfold tblMay
  simp only [Bool.and_eq_true] at h ⊢
  exact ⟨h.1, placeB_iff.2 ⟨Or.inr rfl, l0, l1⟩, h.2⟩
theorem look_no {l : Nat} {X : Nat → BitVec 64} {lv fr mid : Int} (h : mayW l mid = false) : tableA l X 2 lv fr mid = (dz, 1) := by
  rw [tableA_eq, if_neg]
  unfold mayW at h
  unfold tblMay
  intro hh
  simp only [Bool.and_eq_true] at hh
  rw [hh.1, hh.2.2] at h
  cases h
/-- A walk's cells. -/
def wayL (f : Option Addr) (l c : Nat) (fr lv : Int) (d : Dsc) (mid : Int) (sP : Value) : List Value := [.slice f l c, .int .i64 fr, .int .i64 lv, .int .i64 d.k, .int .i64 d.f, .bool d.r, .bool d.w, .bool d.x, .bool d.a, .bool d.n, .int .i64 d.s, .int .i64 d.o, .int .i64 mid, sP]
theorem GPost.boxM {ft : List Nat} {w0 W w' : World} {k i b : Nat} {v : Env → Value} {rest : BL} {x0 x1 : Env → Bx} {new : List (Env → FV)} {E : Env} {e : Ending} (q : Sup) (hk : Keep ft w0 W) (hp : ∀ p ∈ (i, x0) :: rest, (p.2 E).Holds ft w0 W) (h0 : (x0 E).fp = oneS b) (h1 : (x1 (envN new E k q)).fp = oneS b) (hr : ∀ p ∈ rest, p.1 ≠ i)
    (he : e = .returned (v (envN new E k q))) (hF : Fits [b] W (x1 (envN new E k q) :: newsB q (envN new E k q) k new) w') : ∃ q, GPost ft w0 k v ((i, x0) :: rest) [(i, x1)] new E W e w' q := by
  refine GPost.fin (ft := [b]) q hk hp (fun c hc => ?_) (fun p hp' p' hp'' hpe => ?_) he hF
  · obtain rfl := List.mem_singleton.1 hc
    exact ⟨_, List.mem_cons_self .., by rw [h0]; rfl, by simp⟩
  · obtain rfl := List.mem_singleton.1 hp''
    rcases List.mem_cons.1 hp' with rfl | hp'
    · exact Or.inr (h1.trans h0.symm)
    · exact absurd hpe.symm (hr p hp')
theorem Fits.row0 {W : World} {b : Nat} {t : TypeId} {cs : List Value} (h : W.heap[b]? = some (.cells cs.toArray t)) (t' : TypeId) : Fits [] W [⟨b, 0, t', cs, .row⟩] W := by
  have hB : BoxAt W b cs.toArray t := ⟨h⟩
  exact (Fits.nil W).row hB.lt (fun j v hv => by rw [Nat.zero_add]; exact hB.get j v (by simpa using hv)) (fun i x hi => by simp at hi)
theorem Fits.row1 {W : World} {b : Nat} {t : TypeId} {cs : List Value} {ft : List Nat} {w0 : World} (h : (⟨b, 0, t, cs, .own⟩ : Bx).Holds ft w0 W) (t' : TypeId) : Fits [] W [⟨b, 0, t', cs, .row⟩] W := Fits.row0 h.2.2 t'
theorem pfind_any (f : Option Addr) (l c : Nat) (X : Nat → BitVec 64) (fr lv mid : Int) (rest : List Value) (b : Nat) (w : World) (hX : WordsAt w f l X) (hl : l ≤ 100000) (hlc : l ≤ c) (hb : Fits [] w [⟨b, 0, 62, (.slice f l c :: .int .i64 fr :: .int .i64 lv :: rest), .row⟩] w) :
    Calls Tryz.prog 64 #[.pointer (some ⟨b, 0, none⟩), .int .i64 mid] w fun e w' => e = .returned (.tuple #[dscV (tableA l X 2 lv fr mid).1, .int .i64 (tableA l X 2 lv fr mid).2]) ∧ Below w.heap.size w w' := by
  exact calls_ex mixedT [⟨b, 0, 62, (.slice f l c :: .int .i64 fr :: .int .i64 lv :: rest), .row⟩] (.r 1 [a1 3 0 0, a1 7 0 2, a1 11 0 1, (13, .call 83 (fun _ => [.agg #[.slice f l c], .int .i64 2, .int .i64 lv, .int .i64 fr, .int .i64 mid]) (fun _ => .tuple #[dscV (tableA l X 2 lv fr mid).1, .int .i64 (tableA l X 2 lv fr mid).2])), aN 16 1 0 9] (.fin [(1, 0, 9)] (fun _ => .tuple #[dscV (tableA l X 2 lv fr mid).1, .int .i64 (tableA l X 2 lv fr mid).2]) [])) Tryz.func64 rfl hb (⟨fun _ W hk => tableC f l c X 2 lv fr mid W (by omega) hlc (hX.keep0 hk), fun _ _ h _ => ⟨rfl, h.below⟩⟩) rfl (fun _ => by kernel_rfl)
theorem penter_any (f : Option Addr) (l c : Nat) (fr lv : Int) (d : Dsc) (mid : Int) (fr2 : Int) (sP : Value) (b : Nat) (w : World) (hb : w.heap[b]? = some (.cells (wayL f l c fr lv d mid sP).toArray 64)) (l0 : 0 ≤ lv) (l1 : lv ≤ 4) :
    Calls Tryz.prog 40 #[.pointer (some ⟨b, 0, none⟩), .int .i64 fr2] w fun e w' => e = .returned (.tuple #[]) ∧ Fits [b] w [⟨b, 0, 64, wayL f l c fr2 (lv + 1) d mid sP, .own⟩] w' := by
  have hw : IntKind.i64.wrap (lv + 1) = lv + 1 := IntWalk.i64_in _ (by omega)
  exact calls_ex mixedT [⟨b, 0, 64, wayL f l c fr lv d mid sP, .own⟩] (.r 0 [a1 5 0 1] (.r 1 [a1 4 0 2, (5, .rw (fun _ => .int .i64 (IntKind.i64.wrap (lv + 1))) (fun _ => .int .i64 (lv + 1))), a1 9 0 2] (.fin [] (fun _ => .tuple #[]) [(0, (fun _ => ⟨b, 0, 64, wayL f l c fr2 (lv + 1) d mid sP, .own⟩))]))) Tryz.func40 rfl (Fits.box hb) (⟨fun _ => by rw [hw], fun E W hk hp => ⟨rfl, hp.2 rfl⟩⟩) rfl (fun _ => by kernel_rfl)
theorem plook_any (f : Option Addr) (l c : Nat) (fr lv : Int) (d : Dsc) (mid : Int) (X : Nat → BitVec 64) (b : Nat) (R : List Int) (fR : Option Addr) (cR : Nat) (q : Dsc × Int) (W : World) (hF : Fits (b :: (fR.map (·.block)).toList) W [⟨b, 0, 64, wayL f l c fr lv d mid (.slice fR R.length cR), .own⟩, ownFx 3 1 fR R.length cR (icells R)] W) (hX : ∀ w, Keep (b :: (fR.map (·.block)).toList) W w → WordsAt w f l X) (hl : l ≤ 100000) (hlc : l ≤ c) (hR : R.length ≤ 1000) (hq : (tableA l X 2 lv fr mid) = q) :
    Calls Tryz.prog 39 #[.pointer (some ⟨b, 0, none⟩)] W (RowEnd (b :: (fR.map (·.block)).toList) W b 64 (fun sP => wayL f l c fr lv q.1 mid sP) (.int .i64 q.2) (R ++ [fr])) := by
  exact calls_ex mixedT [⟨b, 0, 64, wayL f l c fr lv d mid (.slice fR R.length cR), .own⟩, ownFx 3 1 fR R.length cR (icells R)] (.r 1 [a1 4 0 13, a1 9 0 1, (11, .opc (.call ⟨.builtin .append, #[(.tmp 7), (.tmp 13)], #[25, 25]⟩) (fun E => [.slice fR R.length cR, .slice (some ⟨E.b 2, 0, none⟩) 1 1]) (fun E => .slice (E.f 3) (R ++ [fr]).length (E.b 3)) [(1, (fun _ => ownFx 3 1 fR R.length cR (icells R))), (2, (fun E => ⟨E.b 2, 0, 3, [.int .i64 fr], .own⟩))] [(1, fun _ => noBx)] 3 [fun E => OwnP 3 1 (E.f 3) (R ++ [fr]).length (E.b 3) (icells (R ++ [fr]))]), a1 14 0 13] (.r 2 [a1 7 0 12, (8, .callg 64 (fun _ => [.pointer (some ⟨b, 0, none⟩), .int .i64 mid]) (fun _ => .tuple #[dscV q.1, .int .i64 q.2]) [(0, (fun E => ⟨b, 0, 64, wayL f l c fr lv d mid (.slice (E.f 3) (R ++ [fr]).length (E.b 3)), .own⟩))] [] 4 []), aN 14 0 3 9] (.fin [] (fun _ => .int .i64 q.2) [(0, (fun E => ⟨b, 0, 64, wayL f l c fr lv q.1 mid (.slice (E.f 3) (R ++ [fr]).length (E.b 3)), .own⟩)), (3, (fun E => ownFx 3 1 (E.f 3) (R ++ [fr]).length (E.b 3) (icells (R ++ [fr]))))]))) Tryz.func39 rfl hF (⟨fun E W ρ o ho hx hk hp => pushN_opc ho hx hk hp.1 rfl (by simp only [List.length_append, List.length_singleton] at *; omega), fun E W hk hp => (pfind_any f l c X fr lv mid _ b W (hX W hk) hl hlc (Fits.row1 (hp.1 _ (List.mem_singleton.2 rfl)) _)).mono fun e w' h => GPost.quiet hk (by rw [hq] at h; exact h), fun E W hk hp => ⟨E.f 3, E.b 3, rfl, hp.2 rfl⟩⟩) rfl (fun _ => by kernel_rfl)
/-- What wayOf hands out. -/
def WayEnd (w : World) (f : Option Addr) (l c : Nat) (mid : Int) (z : WayR) (e : Ending) (w' : World) : Prop :=
  ∃ fR cR, e = .returned (.tuple #[.agg (wayL f l c z.fr z.lv z.d mid (.slice fR z.P.length cR)).toArray, .int .i64 z.e]) ∧ OwnI w' w.heap.size (.slice fR z.P.length cR) z.P ∧ Below w.heap.size w w'
structure WayX where
  n : Nat
  lv : Int
  fr : Int
  d : Dsc
  e : Int
  R : List Int
  f : Option Addr
  c : Nat
def WayI (f : Option Addr) (l c : Nat) (X : Nat → BitVec 64) (root mid dp : Int) (b8 b10 : Nat) (w0 : World) (z : WayR) (x : WayX) (a : Act) (w : World) : Prop := x.n ≤ 3 ∧ x.lv = 3 - (x.n : Int) ∧ (x.R.length : Int) = x.lv ∧ (x.e = 0 → mayW l mid = true ∧ hasB l x.fr = true ∧ x.d = tblD X 2 x.lv x.fr mid ∧ wayS l (fun lv f => tblD X 2 lv f mid) dp (x.n + 1) x.lv x.fr x.R = z) ∧ (x.e ≠ 0 → z = ⟨x.d, x.lv, x.fr, (x.R ++ [x.fr]), x.e⟩) ∧ Has Tryz.f27.ntmps [(3, .int .i64 dp), (8, .pointer (some ⟨b8, 0, none⟩)), (10, .pointer (some ⟨b10, 0, none⟩)), (11, .int .i64 x.e)] a ∧ Fits [] w0 [⟨b8, 0, 64, wayL none 0 0 0 0 dz 0 (.slice none 0 0), .own⟩, ⟨b10, 0, 64, wayL f l c x.fr x.lv x.d mid (.slice x.f (x.R ++ [x.fr]).length x.c), .own⟩, ownFx 3 1 x.f (x.R ++ [x.fr]).length x.c (icells (x.R ++ [x.fr]))] w
theorem way_rest (f : Option Addr) (l c : Nat) (X : Nat → BitVec 64) (root mid dp : Int) (b8 b10 : Nat) {w0 W : World} {a : Act} {Q : Exit → Act → World → Prop} {z : WayR} (lv fr : Int) (d : Dsc) (e : Int) (R : List Int) (fR : Option Addr) (cR : Nat) (hz : ⟨d, lv, fr, (R ++ [fr]), e⟩ = z)
    (hT : Has Tryz.f27.ntmps [(3, .int .i64 dp), (8, .pointer (some ⟨b8, 0, none⟩)), (10, .pointer (some ⟨b10, 0, none⟩)), (11, .int .i64 e)] a) (hF : Fits [] w0 [⟨b8, 0, 64, wayL none 0 0 0 0 dz 0 (.slice none 0 0), .own⟩, ⟨b10, 0, 64, wayL f l c fr lv d mid (.slice fR (R ++ [fr]).length cR), .own⟩, ownFx 3 1 fR (R ++ [fr]).length cR (icells (R ++ [fr]))] W) (hQr : ∀ a w, bodyPost Tryz.prog Tryz.f27 (WayEnd w0 f l c mid z) .ret a w → Q .ret a w) : wpI Tryz.prog Q (restAt Tryz.f27 0) (.exit 0) a W :=
  wpI_pop (k' := popD 0 (restAt Tryz.f27 0)) (by kernel_rfl) (wpI_ex mixedT Tryz.f27 (popD 0 (restAt Tryz.f27 0)) [(3, .int .i64 dp), (8, .pointer (some ⟨b8, 0, none⟩)), (10, .pointer (some ⟨b10, 0, none⟩)), (11, .int .i64 e)] [⟨b8, 0, 64, wayL none 0 0 0 0 dz 0 (.slice none 0 0), .own⟩, ⟨b10, 0, 64, wayL f l c fr lv d mid (.slice fR (R ++ [fr]).length cR), .own⟩, ownFx 3 1 fR (R ++ [fr]).length cR (icells (R ++ [fr]))] (.r 6 [aN 0 1 0 14, aN 2 0 0 14] (.fin [(0, 0, 14)] (fun _ => .tuple #[.agg #[.slice f l c, .int .i64 fr, .int .i64 lv, .int .i64 d.k, .int .i64 d.f, .bool d.r, .bool d.w, .bool d.x, .bool d.a, .bool d.n, .int .i64 d.s, .int .i64 d.o, .int .i64 mid, .slice fR (R ++ [fr]).length cR], .int .i64 e]) [(2, (fun _ => ownFx 3 1 fR (R ++ [fr]).length cR (icells (R ++ [fr]))))])) hT hF (fun E W hk hp => by subst hz; exact ⟨fR, cR, rfl, own_base (hp.1 _ (List.mem_singleton.2 rfl)), hk.below⟩) (R := (WayEnd w0 f l c mid z)) (J := fun _ _ _ => False) hQr (fun _ _ _ h => h.elim) (fun _ => by kernel_rfl))
set_option maxRecDepth 100000 in
theorem way_loop (f : Option Addr) (l c : Nat) (X : Nat → BitVec 64) (root mid dp : Int) (b8 b10 : Nat) {w0 W : World} {a : Act} {Q : Exit → Act → World → Prop} {z : WayR} (hX : WordsAt w0 f l X) (hl : l ≤ 100000) (hlc : l ≤ c) (x0 : WayX) (hI : WayI f l c X root mid dp b8 b10 w0 z x0 a W) (hQr : ∀ a w, bodyPost Tryz.prog Tryz.f27 (WayEnd w0 f l c mid z) .ret a w → Q .ret a w) : wpI Tryz.prog Q (.code (nthLoop Tryz.f27 0) :: restAt Tryz.f27 0) .normal a W := by
  rw [show nthLoop Tryz.f27 0 = .loop (bodyOf (nthLoop Tryz.f27 0)) from by kernel_rfl]
  refine wp_lp (fun x a w => WayI f l c X root mid dp b8 b10 w0 z x a w) (fun x => x.n) x0 hI fun x a w hI => ?_
  obtain ⟨n, lv, fr, d, e, R, fR, cR⟩ := x
  obtain ⟨hn, hlv, hlen, h0, h1, hT, hF⟩ := hI
  simp only at hn hlv hlen h0 h1 hT hF
  by_cases he : e = 0
  · obtain ⟨hm, hb, hd, hz⟩ := h0 he
    have e0 : (e == 0) = true := by rw [he]; rfl
    have l0 : 0 ≤ lv := by omega
    have hdf := tbl_frame X 2 lv fr mid
    have hdk := tbl_kind X 2 lv fr mid
    rw [← hd] at hdf hdk
    by_cases hk : d.k = 1
    · have e1 : (d.k == 1) = true := by rw [hk]; rfl
      by_cases hp : lv < dp
      · have e2 : decide ((lv : Int) < dp) = true := decide_eq_true hp
        have hl3 : lv ≤ 2 := by omega
        obtain ⟨q, hq⟩ : ∃ q, tableA l X 2 (lv + 1) d.f mid = q := ⟨_, rfl⟩
        have hq' := hq
        rw [look_yes hm (by omega) (by omega)] at hq'
        rw [wayS_on (T := (fun lv f => tblD X 2 lv f mid)) hb ⟨hd ▸ hk, hp⟩, ← hd] at hz
        have hnn : n - 1 + 1 = n := by omega
        have hn1 : q.2 = 0 → mayW l mid = true ∧ hasB l d.f = true ∧ q.1 = tblD X 2 (lv + 1) d.f mid ∧ wayS l (fun lv f => tblD X 2 lv f mid) dp (n - 1 + 1) (lv + 1) d.f (R ++ [fr]) = z := fun h2 => by
          by_cases hb2 : hasB l d.f = true
          · rw [if_pos hb2] at hq'
            subst hq'
            exact ⟨hm, hb2, rfl, by rw [hnn]; exact hz⟩
          · rw [if_neg hb2] at hq'
            subst hq'
            simp at h2
        have hn2 : q.2 ≠ 0 → z = ⟨q.1, lv + 1, d.f, (R ++ [fr]) ++ [d.f], q.2⟩ := fun h2 => by
          by_cases hb2 : hasB l d.f = true
          · rw [if_pos hb2] at hq'
            subst hq'
            exact absurd rfl h2
          · rw [if_neg hb2] at hq'
            subst hq'
            rw [← hnn, wayS_far (by simpa using hb2)] at hz
            exact hz.symm
        exact wp_ex mixedT Tryz.f27 [(3, .int .i64 dp), (8, .pointer (some ⟨b8, 0, none⟩)), (10, .pointer (some ⟨b10, 0, none⟩)), (11, .int .i64 e)] [⟨b8, 0, 64, wayL none 0 0 0 0 dz 0 (.slice none 0 0), .own⟩, ⟨b10, 0, 64, wayL f l c fr lv d mid (.slice fR (R ++ [fr]).length cR), .own⟩, ownFx 3 1 fR (R ++ [fr]).length cR (icells (R ++ [fr]))] (.r 3 [(1, .rw (fun _ => .bool (e == 0)) (fun _ => .bool true)), a1 5 1 3, (6, .rw (fun _ => .bool (d.k == 1)) (fun _ => .bool true)), a1 11 1 2, (13, .rw (fun _ => .bool (decide ((lv : Int) < dp))) (fun _ => .bool true))] (.r 4 [a1 2 1 4, (3, .callg 40 (fun _ => [.pointer (some ⟨b10, 0, none⟩), .int .i64 d.f]) (fun _ => .tuple #[]) [(1, (fun _ => ⟨b10, 0, 64, wayL f l c fr lv d mid (.slice fR (R ++ [fr]).length cR), .own⟩))] [(1, (fun _ => ⟨b10, 0, 64, wayL f l c d.f (lv + 1) d mid (.slice fR (R ++ [fr]).length cR), .own⟩))] 3 [])] (.r 5 [(0, .callg 39 (fun _ => [.pointer (some ⟨b10, 0, none⟩)]) (fun _ => .int .i64 q.2) [(1, (fun _ => ⟨b10, 0, 64, wayL f l c d.f (lv + 1) d mid (.slice fR (R ++ [fr]).length cR), .own⟩)), (2, (fun _ => ownFx 3 1 fR (R ++ [fr]).length cR (icells (R ++ [fr]))))] [(1, (fun E => ⟨b10, 0, 64, wayL f l c d.f (lv + 1) q.1 mid (.slice (E.f 3) ((R ++ [fr]) ++ [d.f]).length (E.b 3)), .own⟩)), (2, (fun _ => noBx))] 3 [fun E => OwnP 3 1 (E.f 3) ((R ++ [fr]) ++ [d.f]).length (E.b 3) (icells ((R ++ [fr]) ++ [d.f]))])] (.out none (fun _ => [(3, .int .i64 dp), (8, .pointer (some ⟨b8, 0, none⟩)), (10, .pointer (some ⟨b10, 0, none⟩)), (11, .int .i64 q.2)]) [(0, (fun _ => ⟨b8, 0, 64, wayL none 0 0 0 0 dz 0 (.slice none 0 0), .own⟩)), (1, (fun E => ⟨b10, 0, 64, wayL f l c d.f (lv + 1) q.1 mid (.slice (E.f 3) ((R ++ [fr]) ++ [d.f]).length (E.b 3)), .own⟩)), (3, (fun E => ownFx 3 1 (E.f 3) ((R ++ [fr]) ++ [d.f]).length (E.b 3) (icells ((R ++ [fr]) ++ [d.f]))))])))) hT hF (⟨fun _ => congrArg Value.bool e0, fun _ => congrArg Value.bool e1, fun _ => congrArg Value.bool e2, fun E W hk hp => (penter_any f l c fr lv d mid d.f _ b10 W (hp.1 _ (List.mem_singleton.2 rfl)).2.2 l0 (by omega)).mono fun e w' h => GPost.boxM (fun _ => (0, none)) hk hp.1 rfl rfl (fun _ h => nomatch h) h.1 h.2, fun E W hk hp => (plook_any f l c d.f (lv + 1) d mid X b10 (R ++ [fr]) fR cR q W ((hp.2 rfl).self cover2) (fun w hw => hX.keep0 (hk.under hw (cov2 (hp.2 rfl)))) hl hlc (by simp only [List.length_append, List.length_singleton]; omega) hq).mono fun e w' h => h.post hk hp.1, fun E _ _ hT1 hF1 => ⟨⟨n - 1, lv + 1, d.f, q.1, q.2, R ++ [fr], E.f 3, E.b 3⟩, ⟨by simp only; omega, by simp only; omega, by simp only [List.length_append, List.length_singleton]; omega, hn1, hn2, hT1, hF1⟩, by simp only; omega⟩⟩) (R := (WayEnd w0 f l c mid z)) (J := fun ze a' w' => match ze with | .normal => ∃ x' : WayX, WayI f l c X root mid dp b8 b10 w0 z x' a' w' ∧ x'.n < n | ze => wpI Tryz.prog Q (restAt Tryz.f27 0) ze a' w') (fun _ _ h => wpI_ret (hQr _ _ h)) (fun e _ _ h => by cases e <;> exact h) (fun _ => by kernel_rfl)
      · have e2 : decide ((lv : Int) < dp) = false := decide_eq_false hp
        exact wp_ex mixedT Tryz.f27 [(3, .int .i64 dp), (8, .pointer (some ⟨b8, 0, none⟩)), (10, .pointer (some ⟨b10, 0, none⟩)), (11, .int .i64 e)] [⟨b8, 0, 64, wayL none 0 0 0 0 dz 0 (.slice none 0 0), .own⟩, ⟨b10, 0, 64, wayL f l c fr lv d mid (.slice fR (R ++ [fr]).length cR), .own⟩, ownFx 3 1 fR (R ++ [fr]).length cR (icells (R ++ [fr]))] (.r 3 [(1, .rw (fun _ => .bool (e == 0)) (fun _ => .bool true)), a1 5 1 3, (6, .rw (fun _ => .bool (d.k == 1)) (fun _ => .bool true)), a1 11 1 2, (13, .rw (fun _ => .bool (decide ((lv : Int) < dp))) (fun _ => .bool false))] (.out (some 0) (fun _ => [(3, .int .i64 dp), (8, .pointer (some ⟨b8, 0, none⟩)), (10, .pointer (some ⟨b10, 0, none⟩)), (11, .int .i64 e)]) [(0, (fun _ => ⟨b8, 0, 64, wayL none 0 0 0 0 dz 0 (.slice none 0 0), .own⟩)), (1, (fun _ => ⟨b10, 0, 64, wayL f l c fr lv d mid (.slice fR (R ++ [fr]).length cR), .own⟩)), (2, (fun _ => ownFx 3 1 fR (R ++ [fr]).length cR (icells (R ++ [fr]))))])) hT hF (⟨fun _ => congrArg Value.bool e0, fun _ => congrArg Value.bool e1, fun _ => congrArg Value.bool e2, fun E a w hT1 hF1 => way_rest f l c X root mid dp b8 b10 lv fr d e R fR cR (by subst he; rw [← hz, wayS_end (T := (fun lv f => tblD X 2 lv f mid)) hb (by rw [← hd]; exact fun h => hp h.2), ← hd]) hT1 hF1 hQr⟩) (R := (WayEnd w0 f l c mid z)) (J := fun ze a' w' => match ze with | .normal => ∃ x' : WayX, WayI f l c X root mid dp b8 b10 w0 z x' a' w' ∧ x'.n < n | ze => wpI Tryz.prog Q (restAt Tryz.f27 0) ze a' w') (fun _ _ h => wpI_ret (hQr _ _ h)) (fun e _ _ h => by cases e <;> exact h) (fun _ => by kernel_rfl)
    · have e1 : (d.k == 1) = false := by rw [beq_eq_false_iff_ne]; exact hk
      exact wp_ex mixedT Tryz.f27 [(3, .int .i64 dp), (8, .pointer (some ⟨b8, 0, none⟩)), (10, .pointer (some ⟨b10, 0, none⟩)), (11, .int .i64 e)] [⟨b8, 0, 64, wayL none 0 0 0 0 dz 0 (.slice none 0 0), .own⟩, ⟨b10, 0, 64, wayL f l c fr lv d mid (.slice fR (R ++ [fr]).length cR), .own⟩, ownFx 3 1 fR (R ++ [fr]).length cR (icells (R ++ [fr]))] (.r 3 [(1, .rw (fun _ => .bool (e == 0)) (fun _ => .bool true)), a1 5 1 3, (6, .rw (fun _ => .bool (d.k == 1)) (fun _ => .bool false))] (.out (some 0) (fun _ => [(3, .int .i64 dp), (8, .pointer (some ⟨b8, 0, none⟩)), (10, .pointer (some ⟨b10, 0, none⟩)), (11, .int .i64 e)]) [(0, (fun _ => ⟨b8, 0, 64, wayL none 0 0 0 0 dz 0 (.slice none 0 0), .own⟩)), (1, (fun _ => ⟨b10, 0, 64, wayL f l c fr lv d mid (.slice fR (R ++ [fr]).length cR), .own⟩)), (2, (fun _ => ownFx 3 1 fR (R ++ [fr]).length cR (icells (R ++ [fr]))))])) hT hF (⟨fun _ => congrArg Value.bool e0, fun _ => congrArg Value.bool e1, fun E a w hT1 hF1 => way_rest f l c X root mid dp b8 b10 lv fr d e R fR cR (by subst he; rw [← hz, wayS_end (T := (fun lv f => tblD X 2 lv f mid)) hb (by rw [← hd]; exact fun h => hk h.1), ← hd]) hT1 hF1 hQr⟩) (R := (WayEnd w0 f l c mid z)) (J := fun ze a' w' => match ze with | .normal => ∃ x' : WayX, WayI f l c X root mid dp b8 b10 w0 z x' a' w' ∧ x'.n < n | ze => wpI Tryz.prog Q (restAt Tryz.f27 0) ze a' w') (fun _ _ h => wpI_ret (hQr _ _ h)) (fun e _ _ h => by cases e <;> exact h) (fun _ => by kernel_rfl)
  · have e0 : (e == 0) = false := by rw [beq_eq_false_iff_ne]; exact he
    exact wp_ex mixedT Tryz.f27 [(3, .int .i64 dp), (8, .pointer (some ⟨b8, 0, none⟩)), (10, .pointer (some ⟨b10, 0, none⟩)), (11, .int .i64 e)] [⟨b8, 0, 64, wayL none 0 0 0 0 dz 0 (.slice none 0 0), .own⟩, ⟨b10, 0, 64, wayL f l c fr lv d mid (.slice fR (R ++ [fr]).length cR), .own⟩, ownFx 3 1 fR (R ++ [fr]).length cR (icells (R ++ [fr]))] (.r 3 [(1, .rw (fun _ => .bool (e == 0)) (fun _ => .bool false))] (.out (some 0) (fun _ => [(3, .int .i64 dp), (8, .pointer (some ⟨b8, 0, none⟩)), (10, .pointer (some ⟨b10, 0, none⟩)), (11, .int .i64 e)]) [(0, (fun _ => ⟨b8, 0, 64, wayL none 0 0 0 0 dz 0 (.slice none 0 0), .own⟩)), (1, (fun _ => ⟨b10, 0, 64, wayL f l c fr lv d mid (.slice fR (R ++ [fr]).length cR), .own⟩)), (2, (fun _ => ownFx 3 1 fR (R ++ [fr]).length cR (icells (R ++ [fr]))))])) hT hF (⟨fun _ => congrArg Value.bool e0, fun E a w hT1 hF1 => way_rest f l c X root mid dp b8 b10 lv fr d e R fR cR ((h1 he).symm) hT1 hF1 hQr⟩) (R := (WayEnd w0 f l c mid z)) (J := fun ze a' w' => match ze with | .normal => ∃ x' : WayX, WayI f l c X root mid dp b8 b10 w0 z x' a' w' ∧ x'.n < n | ze => wpI Tryz.prog Q (restAt Tryz.f27 0) ze a' w') (fun _ _ h => wpI_ret (hQr _ _ h)) (fun e _ _ h => by cases e <;> exact h) (fun _ => by kernel_rfl)
theorem pway_any (f : Option Addr) (l c : Nat) (X : Nat → BitVec 64) (root mid dp : Int) (z : WayR) (w : World) (hX : WordsAt w f l X) (hl : l ≤ 100000) (hlc : l ≤ c) (hz : wayA l X root mid dp = z) :
    Calls Tryz.prog 27 #[.agg #[.slice f l c], .int .i64 root, .int .i64 mid, .int .i64 dp] w (WayEnd w f l c mid z) := by
  obtain ⟨q, hq⟩ : ∃ q, tableA l X 2 0 root mid = q := ⟨_, rfl⟩
  have hn1 : q.2 = 0 → mayW l mid = true ∧ hasB l root = true ∧ q.1 = tblD X 2 0 root mid ∧ wayS l (fun lv f => tblD X 2 lv f mid) dp (3 + 1) 0 root [] = z := fun h2 => by
    by_cases hm : mayW l mid = true
    · rw [look_yes hm (by omega) (by omega)] at hq
      unfold wayA at hz
      rw [if_pos hm] at hz
      by_cases hb2 : hasB l root = true
      · rw [if_pos hb2] at hq
        subst hq
        exact ⟨hm, hb2, rfl, hz⟩
      · rw [if_neg hb2] at hq
        subst hq
        simp at h2
    · rw [look_no (by simpa using hm)] at hq
      subst hq
      simp at h2
  have hn2 : q.2 ≠ 0 → z = ⟨q.1, 0, root, [] ++ [root], q.2⟩ := fun h2 => by
    by_cases hm : mayW l mid = true
    · rw [look_yes hm (by omega) (by omega)] at hq
      unfold wayA at hz
      rw [if_pos hm] at hz
      by_cases hb2 : hasB l root = true
      · rw [if_pos hb2] at hq
        subst hq
        exact absurd rfl h2
      · rw [if_neg hb2] at hq
        subst hq
        unfold wayD at hz
        rw [wayS_far (by simpa using hb2)] at hz
        exact hz.symm
    · rw [look_no (by simpa using hm)] at hq
      subst hq
      unfold wayA at hz
      rw [if_neg hm] at hz
      exact hz.symm
  exact calls_ex mixedT [] (.r 1 [a1 0 0 0, aN 6 2 0 14] (.r 2 [(0, .callg 39 (fun E => [.pointer (some ⟨E.b 2, 0, none⟩)]) (fun _ => .int .i64 q.2) [(2, (fun E => ⟨E.b 2, 0, 64, wayL f l c root 0 dz mid (.slice none 0 0), .own⟩))] [(2, (fun E => ⟨E.b 2, 0, 64, wayL f l c root 0 q.1 mid (.slice (E.f 3) ([] ++ [root]).length (E.b 3)), .own⟩))] 3 [fun E => OwnP 3 1 (E.f 3) ([] ++ [root]).length (E.b 3) (icells ([] ++ [root]))])] (.lp (restAt Tryz.f27 0) (nthLoop Tryz.f27 0) (fun E => [(3, .int .i64 dp), (8, .pointer (some ⟨E.b 1, 0, none⟩)), (10, .pointer (some ⟨E.b 2, 0, none⟩)), (11, .int .i64 q.2)]) [(1, (fun E => ⟨E.b 1, 0, 64, wayL none 0 0 0 0 dz 0 (.slice none 0 0), .own⟩)), (2, (fun E => ⟨E.b 2, 0, 64, wayL f l c root 0 q.1 mid (.slice (E.f 3) ([] ++ [root]).length (E.b 3)), .own⟩)), (3, (fun E => ownFx 3 1 (E.f 3) ([] ++ [root]).length (E.b 3) (icells ([] ++ [root]))))]))) Tryz.func27 rfl (Fits.nil w) (⟨fun E W hk hp => (plook_any f l c root 0 dz mid X _ [] none 0 q W (((hp.2 rfl).self (fun i x hi b hb => by rcases i with _ | i; (obtain rfl := Option.some.inj hi; obtain rfl := Option.some.inj hb; exact List.mem_singleton.2 rfl); simp at hi)).nilrow _ _) (fun w hw => hX.keep0 (hk.under hw (fun b hb => by obtain rfl := List.mem_singleton.1 hb; exact (hp.1 _ (List.mem_singleton.2 rfl)).2.1))) hl hlc (by simp) hq).mono fun e w' h => RowEnd.post0 hk hp.1 h, fun E a W hT hF Q hQr _ => way_loop f l c X root mid dp (E.b 1) (E.b 2) hX hl hlc ⟨3, 0, root, q.1, q.2, [], E.f 3, E.b 3⟩ ⟨Nat.le_refl 3, rfl, rfl, hn1, hn2, hT, by exact hF⟩ hQr⟩) rfl (fun _ => by kernel_rfl)
end Go.Proofs.YtbhnjaajkolklaaGreat
