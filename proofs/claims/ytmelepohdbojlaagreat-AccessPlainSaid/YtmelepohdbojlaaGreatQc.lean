/- Stage 14: the reference's walker.stage: plainly, and its contract. -/
import Derived.Test.YtmelepohdbojlaaGreatQa
set_option linter.all false
namespace Go.Proofs.YtmelepohdbojlaaGreat
open Go.ChangeShapes Go.WideShapes Go.ChangeAt Go.RowKit Go.Deep
structure AcW where
 l : Nat
 X : Nat → BitVec 64
 of1 : Int
 tg1 : Int
 tf : Int
 tg : Int
 pf : Bool
 pm : Bool
 pw : Bool
 pu : Bool
def AcW.mid (a : AcW) (s : WkS) (mid acc : Int) : (Int × Atr × Flt) × WkS := midW a.l a.X a.tf a.tg a.pm a.pu s mid acc
def fltW (f : Flt) : Flt := ⟨f.k, f.st, f.lv, true, f.p⟩
def tabA (a : AcW) (pg lv fr mid : Int) (s : WkS) : (Int × Flt) × WkS :=
 if fr < 0 then
  (if (a.mid s mid 0).1.2.2.k ≠ 0 then ((0, fltW (a.mid s mid 0).1.2.2), (a.mid s mid 0).2)
  else (((a.mid s mid 0).1.1, flt0), if (decide (lv > 0) && a.pw) = true then ⟨fill9 (a.mid s mid 0).2.E ⟨3, a.tg, a.tg1, false, pg - pg % cov (lv - 1), lv, (a.mid s mid 0).1.1, 0, atr0⟩, (a.mid s mid 0).2.R⟩ else (a.mid s mid 0).2))
 else ((fr, flt0), s)
abbrev AcR := (Int × Flt) × WkS
def dscA (a : AcW) (pg acc : Int) (next : Int → WkS → AcR) (lv fr : Int) (s : WkS) : AcR :=
 if (tblD a.X 1 lv fr pg).k = 1 then next (tblD a.X 1 lv fr pg).f s
 else if (tblD a.X 1 lv fr pg).k = 0 then ((0, ⟨2, 1, lv, false, pg⟩), s)
 else if (flagA (tblD a.X 1 lv fr pg).at' acc 1 lv pg).k ≠ 0 then ((0, flagA (tblD a.X 1 lv fr pg).at' acc 1 lv pg), s)
 else if (a.mid s ((tblD a.X 1 lv fr pg).f + pg % cov lv) acc).1.2.2.k ≠ 0 then ((0, (a.mid s ((tblD a.X 1 lv fr pg).f + pg % cov lv) acc).1.2.2), (a.mid s ((tblD a.X 1 lv fr pg).f + pg % cov lv) acc).2)
 else (((a.mid s ((tblD a.X 1 lv fr pg).f + pg % cov lv) acc).1.1, flt0),
  if a.pf = true then ⟨fill9 (a.mid s ((tblD a.X 1 lv fr pg).f + pg % cov lv) acc).2.E ⟨1, a.tg, a.tg1, !(bothL [(tblD a.X 1 lv fr pg).at', (a.mid s ((tblD a.X 1 lv fr pg).f + pg % cov lv) acc).1.2.1]).n, pg, 0, (a.mid s ((tblD a.X 1 lv fr pg).f + pg % cov lv) acc).1.1, (tblD a.X 1 lv fr pg).f + pg % cov lv, bothL [(tblD a.X 1 lv fr pg).at', (a.mid s ((tblD a.X 1 lv fr pg).f + pg % cov lv) acc).1.2.1]⟩, (a.mid s ((tblD a.X 1 lv fr pg).f + pg % cov lv) acc).2.R⟩ else (a.mid s ((tblD a.X 1 lv fr pg).f + pg % cov lv) acc).2)
def stageA (a : AcW) (pg acc : Int) : Nat → Int → Int → Int → WkS → AcR
 | 0, _, _, _, s => ((0, flt0), s)
 | n + 1, lv, fr, mid, s =>
  if (tabA a pg lv fr mid s).1.2.k ≠ 0 then ((0, (tabA a pg lv fr mid s).1.2), (tabA a pg lv fr mid s).2)
  else dscA a pg acc (fun mid s => stageA a pg acc n (lv + 1) (-1) mid s) lv (tabA a pg lv fr mid s).1.1 ⟨(tabA a pg lv fr mid s).2.E, (tabA a pg lv fr mid s).2.R ++ [(tabA a pg lv fr mid s).1.1]⟩
def GoodE (l : Nat) (E : List Ety) : Prop := ∀ e ∈ E, 0 ≤ e.fr ∧ e.fr * 8 + 8 ≤ l
theorem fill9_len' (F : List Ety) (e : Ety) : (fill9 F e).length ≤ F.length + 1 := by
 unfold fill9
 split
 ·simp
 ·omega
theorem GoodE.fill {l : Nat} {E : List Ety} {e : Ety} (h : GoodE l E) (h0 : 0 ≤ e.fr) (h1 : e.fr * 8 + 8 ≤ l) : GoodE l (fill9 E e) := by
 unfold fill9
 split
 ·intro x hx
  rcases List.mem_append.1 hx with hx | hx
  ·exact h x hx
  ·obtain rfl := List.mem_singleton.1 hx
   exact ⟨h0, h1⟩
 ·exact h
theorem midD_frame (l : Nat) (X : Nat → BitVec 64) (tf mid acc : Int) (h0 : 0 ≤ tf) (hp : 0 ≤ mid) (hk : (midD l X true tf mid acc).2.1.k = 0) : 0 ≤ (midD l X true tf mid acc).1.f ∧ (midD l X true tf mid acc).1.f * 8 + 8 ≤ l := by
 have h := (walk_cases l X 2 tf mid h0 hp).2.2
 unfold midD at hk ⊢
 rw [if_neg (by decide)] at hk ⊢
 split at hk <;> rename_i h1
 ·rw [if_pos h1]
  split at hk <;> rename_i h2
  ·rw [if_pos h2]
   rcases h with h | h
   ·simp only
    omega
   ·exact absurd h1 h.1
  ·exact absurd hk h2
 ·exact absurd hk h1
theorem midW_good {l : Nat} {X : Nat → BitVec 64} {tf tg : Int} {pm pu : Bool} {s : WkS} {mid acc : Int} (t0 : 0 ≤ tf) (m0 : 0 ≤ mid) (hG : GoodE l s.E) {r : Int × Atr × Flt} {s' : WkS} (h : midW l X tf tg pm pu s mid acc = (r, s')) :
  GoodE l s'.E ∧ s'.E.length ≤ s.E.length + 1 ∧ s'.R.length ≤ s.R.length + 4 ∧ (r.2.2.k = 0 → 0 ≤ r.1 ∧ r.1 * 8 + 8 ≤ l) := by
 have hs := midD_short l X tf mid acc t0 m0
 have hf := midD_frame l X tf mid acc t0 m0
 have hlt : 0 ≤ mid9 s.E tg mid acc → mid9 s.E tg mid acc < s.E.length := fun h => by
  have := (placeE_at s.E 0 (by decide) h).2
  unfold mid9
  omega
 unfold midW at h
 split at h
 ·rename_i hc
  obtain ⟨rfl, rfl⟩ := Prod.mk.inj h
  refine ⟨hG, by omega, by omega, fun _ => ?_⟩
  have h1 := hlt hc.2
  have h2 : (mid9 s.E tg mid acc).toNat < s.E.length := by omega
  have h3 : s.E.getD (mid9 s.E tg mid acc).toNat ent0 = s.E[(mid9 s.E tg mid acc).toNat] := by simp [h2]
  simp only
  rw [h3]
  exact hG _ (List.getElem_mem h2)
 ·split at h
  ·rename_i hk
   obtain ⟨rfl, rfl⟩ := Prod.mk.inj h
   exact ⟨hG, Nat.le_succ _, by simp only [List.length_append]; omega, fun h0 => absurd h0 hk⟩
  ·rename_i hk
   have hk : (midD l X true tf mid acc).2.1.k = 0 := Decidable.not_not.1 hk
   obtain ⟨rfl, rfl⟩ := Prod.mk.inj h
   refine ⟨?_, ?_, by simp only [List.length_append]; omega, fun _ => hf hk⟩
   ·split
    ·exact hG.fill (hf hk).1 (hf hk).2
    ·exact hG
   ·split
    ·exact fill9_len' _ _
    ·exact Nat.le_succ _
theorem rows_two {Q : Type} {K : RowK Q} {w : World} {b : Nat} {q q2 : Q} {cs : Array Value} {t : TypeId} (h : w.heap[b]? = some (.cells cs t)) (hc : cs.toList = (K.V q).toList ++ (K.V q2).toList) : RowsAt K w (some ⟨b, 0, none⟩) [q, q2] := by
 have h : BoxAt w b cs t := ⟨h⟩
 have h1 : (K.V q).toList.length = K.N := by rw [Array.length_toList]; exact K.size q
 intro j x hj
 match j with
 | 0 =>
  simp only [List.getElem?_cons_zero, Option.some.injEq] at hj
  subst hj
  refine ⟨b, 0, rfl, ⟨h.lt, fun i hi => ?_⟩⟩
  have := h.cell i
  simp only [Nat.zero_mul, Nat.zero_add]
  rw [this, ← Array.getElem?_toList, hc, List.getElem?_append_left (by omega), Array.getElem?_toList]
 | 1 =>
  simp only [List.getElem?_cons_succ, List.getElem?_cons_zero, Option.some.injEq] at hj
  subst hj
  refine ⟨b, 0, rfl, ⟨h.lt, fun i hi => ?_⟩⟩
  have := h.cell (K.N + i)
  simp only [Nat.one_mul, Nat.zero_add]
  rw [this, ← Array.getElem?_toList, hc, List.getElem?_append_right (by omega), h1, Nat.add_sub_cancel_left, Array.getElem?_toList]
 | j + 2 => simp at hj
theorem cover4 {b : Nat} {t eE eD eR : TypeId} {cs xE xD xR : List Value} {sE sD sR nE nD nR cE cD cR : Nat} {fE fD fR : Option Addr} : ∀ (i : Nat) (x : Bx), [⟨b, 0, t, cs, .own⟩, ownFx eE sE fE nE cE xE, ownFx eD sD fD nD cD xD, ownFx eR sR fR nR cR xR][i]? = some x → ∀ b', x.fp = some b' → b' ∈ ft4 b fE fD fR := fun i x hi b' hb => by
 simp only [List.mem_cons, List.mem_append, Option.mem_toList]
 rcases i with _ | _ | _ | _ | i
 ·obtain rfl := Option.some.inj hi
  obtain rfl := Option.some.inj hb
  exact Or.inl rfl
 ·obtain rfl := Option.some.inj hi
  exact Or.inr (Or.inl (Or.inl hb))
 ·obtain rfl := Option.some.inj hi
  exact Or.inr (Or.inl (Or.inr hb))
 ·obtain rfl := Option.some.inj hi
  exact Or.inr (Or.inr hb)
 ·simp at hi
theorem cov4 {ft : List Nat} {w0 W : World} {b : Nat} {t eE eD eR : TypeId} {cs xE xD xR : List Value} {sE sD sR nE nD nR cE cD cR : Nat} {fE fD fR : Option Addr} (H : Fits ft w0 [⟨b, 0, t, cs, .own⟩, ownFx eE sE fE nE cE xE, ownFx eD sD fD nD cD xD, ownFx eR sR fR nR cR xR] W) : ∀ x ∈ ft4 b fE fD fR, x ∈ ft ∨ w0.heap.size ≤ x := fun x hx => by
 simp only [List.mem_cons, List.mem_append, Option.mem_toList] at hx
 rcases hx with rfl | (hx | hx) | hx
 ·exact (H.all 0 _ rfl).fpl rfl
 ·exact (H.all 1 _ rfl).fpl hx
 ·exact (H.all 2 _ rfl).fpl hx
 ·exact (H.all 3 _ rfl).fpl hx
theorem body_cut {P : Program} {A B C X D : Code} {id : Nat} {Q : Exit → Act → World → Prop} {a : Act} {w : World} (hB : B = .seq A (.seq (.block id (.seq C X)) D))
  (h : A.wp P (fun e a w => match e with | .normal => C.wp P (wpI P Q [.code X, .blk id, .code D]) a w | .ret => Q .ret a w | _ => False) a w) : B.wp P Q a w := by
 subst hB
 have hb : ∀ e a w, wpI P Q [.blk id, .code D] e a w → Exit.inBlock id (Exit.then (D.wp P Q) Q) e a w := fun e a w h => by
  cases e with
  | exit i =>
   simp only [wpI] at h
   simp only [Exit.inBlock]
   split at h
   ·rename_i hi
    rw [if_pos hi]
    exact h
   ·rename_i hi
    rw [if_neg hi]
    exact h
  | _ => exact h
 refine wp_seq (wp_mono h fun e a w h => ?_)
 cases e with
 | ret => exact h
 | exit _ => exact h.elim
 | goto _ => exact h.elim
 | panic _ => exact h.elim
 | outgrown => exact h.elim
 | normal =>
 show (Code.seq (.block id (.seq C X)) D).wp P Q a w
 refine wp_seq (wp_block (wp_seq (wp_mono h fun e a w h => ?_)))
 cases e with
 | normal => exact wp_mono h hb
 | exit i => exact hb (.exit i) a w h
 | goto i => exact hb (.goto i) a w h
 | ret => exact hb .ret a w h
 | panic i => exact hb (.panic i) a w h
 | outgrown => exact hb .outgrown a w h
abbrev stgW (l : Nat) (X : Nat → BitVec 64) (of1 tg1 tf tg : Int) (pf pm pw pu : Bool) : AcW := ⟨l, X, of1, tg1, tf, tg, pf, pm, pw, pu⟩
structure StgX where
 n : Nat
 fr : Int
 mid : Int
 E : List Ety
 R : List Int
 fE : Option Addr
 fD : Option Addr
 fR : Option Addr
 cE : Nat
 cD : Nat
 cR : Nat
def StgI (b b11 : Nat) (f : Option Addr) (l c : Nat) (on1 : Bool) (of1 tg1 tf tg pc : Int) (pf pm pw : Bool) (pd : Int) (pu : Bool) (X : Nat → BitVec 64) (Ds : List Inv) (pg acc : Int) (ft : List Nat) (w0 : World) (z : AcR) (x : StgX) (a : Act) (w : World) : Prop :=
 x.n ≤ 3 ∧ x.fr * 8 + 8 ≤ l ∧ 0 ≤ x.mid ∧ x.mid ≤ 4095 ∧ GoodE l x.E ∧ x.E.length + 3 * x.n ≤ 80000 ∧ x.R.length + 10 * x.n ≤ 80000 ∧ stageA (stgW l X of1 tg1 tf tg pf pm pw pu) pg acc (x.n + 1) (3 - x.n) x.fr x.mid ⟨x.E, x.R⟩ = z ∧ Has Tryz.f39.ntmps [(0, .pointer (some ⟨b, 0, none⟩)), (1, .int .i64 (3 - x.n)), (2, .int .i64 x.fr), (3, .int .i64 pg), (4, .int .i64 acc), (11, .pointer (some ⟨b11, 0, none⟩)), (12, .int .i64 x.mid)] a ∧ Fits ft w0 [⟨b, 0, 84, wkC f l c on1 of1 tg1 tf tg pc pf pm pw pd pu (.slice x.fE x.E.length x.cE) (.slice x.fD Ds.length x.cD) (.slice x.fR x.R.length x.cR), .own⟩, ownFx KE.t 14 x.fE x.E.length x.cE (rcells KE x.E), ownFx KI.t 4 x.fD Ds.length x.cD (rcells KI Ds), ownFx 3 1 x.fR x.R.length x.cR (icells x.R), ⟨b11, 0, 44, fltC flt0, .own⟩] w
def StgR (b b11 : Nat) (f : Option Addr) (l c : Nat) (on1 : Bool) (of1 tg1 tf tg pc : Int) (pf pm pw : Bool) (pd : Int) (pu : Bool) (X : Nat → BitVec 64) (Ds : List Inv) (pg acc : Int) (ft : List Nat) (w0 : World) (z : AcR) : Ending → World → Prop := MidEnd ft w0 b 84 (wkC f l c on1 of1 tg1 tf tg pc pf pm pw pd pu) (.tuple #[.int .i64 z.1.1, fltV z.1.2]) z.2.E Ds z.2.R
set_option maxRecDepth 100000 in
theorem stage_do (b b11 : Nat) (f : Option Addr) (l c : Nat) (on1 : Bool) (of1 tg1 tf tg pc : Int) (pf pm pw : Bool) (pd : Int) (pu : Bool) (X : Nat → BitVec 64) (Ds : List Inv) (pg acc : Int) {ft : List Nat} {w0 W : World} {a : Act} {Q : Exit → Act → World → Prop} {z : AcR} (hM : okM l = true) (t0 : 0 ≤ tf) (t1 : tf ≤ 4095) (p0 : 0 ≤ pg) (p1 : pg ≤ 4095) (hX : ∀ w, Keep ft w0 w → WordsAt w f l X) (hd : Ds.length ≤ 90000)
  (n : Nat) (lv fr mid : Int) (Es : List Ety) (Rs : List Int) (fE fD fR : Option Addr) (cE cD cR : Nat) (hn : n ≤ 3) (hlv : 3 - (n : Int) = lv) (f0 : 0 ≤ fr) (f1 : fr * 8 + 8 ≤ l) (hG : GoodE l Es) (hle : Es.length + 3 * n ≤ 80002) (hlr : Rs.length + 10 * n ≤ 80008)
  (hz : dscA (stgW l X of1 tg1 tf tg pf pm pw pu) pg acc (fun mid s => stageA (stgW l X of1 tg1 tf tg pf pm pw pu) pg acc n (lv + 1) (-1) mid s) lv fr ⟨Es, Rs ++ [fr]⟩ = z)
  (hT : Has Tryz.f39.ntmps [(0, .pointer (some ⟨b, 0, none⟩)), (1, .int .i64 lv), (2, .int .i64 fr), (3, .int .i64 pg), (4, .int .i64 acc), (11, .pointer (some ⟨b11, 0, none⟩)), (12, .int .i64 mid)] a) (hF : Fits ft w0 [⟨b, 0, 84, wkC f l c on1 of1 tg1 tf tg pc pf pm pw pd pu (.slice fE Es.length cE) (.slice fD Ds.length cD) (.slice fR Rs.length cR), .own⟩, ownFx KE.t 14 fE Es.length cE (rcells KE Es), ownFx KI.t 4 fD Ds.length cD (rcells KI Ds), ownFx 3 1 fR Rs.length cR (icells Rs), ⟨b11, 0, 44, fltC flt0, .own⟩] W) (hQr : ∀ a w, bodyPost Tryz.prog Tryz.f39 (StgR b b11 f l c on1 of1 tg1 tf tg pc pf pm pw pd pu X Ds pg acc ft w0 z) .ret a w → Q .ret a w) (hQn : ∀ a w, (∃ x, StgI b b11 f l c on1 of1 tg1 tf tg pc pf pm pw pd pu X Ds pg acc ft w0 z x a w ∧ x.n < n) → Q .normal a w) :
  wpI Tryz.prog Q [.code (seqR (blkC (seqL (seqR (bodyOf (nthLoop Tryz.f39 0)))))), .blk 1, .code (seqR (seqR (bodyOf (nthLoop Tryz.f39 0))))] .normal a W := by
 have hpl : placeB 1 lv = true := placeB_iff.2 ⟨Or.inl rfl, by omega, by omega⟩
 have hl9 : IntKind.i64.wrap (lv + 1) = lv + 1 := IntWalk.i64_in _ (by omega)
 have hs9 : IntKind.i64.wrap (lv - 1) = lv - 1 := IntWalk.i64_in _ (by omega)
 have l0 : 0 ≤ lv := by omega
 have hdf := tbl_frame X 1 lv fr pg
 have h13 : (tblD X 1 lv fr pg).k = 1 → lv ≠ 3 := fun h => by rcases tbl_kind X 1 lv fr pg with h1 | h1 | h1 <;> omega
 have hm := mod_cov pg lv p0
 have hin : ((tblD X 1 lv fr pg).k == 1) = false → ((tblD X 1 lv fr pg).k == 0) = false → 0 ≤ ((tblD X 1 lv fr pg).f + pg % cov lv) ∧ ((tblD X 1 lv fr pg).f + pg % cov lv) ≤ 4095 := fun h1 h2 => by
  simp only [beq_eq_false_iff_ne, ne_eq] at h1 h2
  refine ⟨by omega, tbl_in X 1 lv fr pg ?_⟩
  rcases tbl_kind X 1 lv fr pg with h | h | h
  ·exact absurd h h2
  ·exact absurd h.1 h1
  ·exact h
 have hw9 : IntKind.i64.wrap ((tblD X 1 lv fr pg).f + (pg % cov lv)) = (tblD X 1 lv fr pg).f + pg % cov lv := IntWalk.i64_in _ (by omega)
 have hc9 : cov lv ≠ 0 := by have := cov_pos lv; omega
 have ht9 : Int.tmod pg (cov lv) = pg % cov lv := Int.tmod_eq_emod_of_nonneg p0
 obtain ⟨⟨⟨nf, nt, ux⟩, ⟨uE, uR⟩⟩, hm1⟩ : ∃ m, midW l X tf tg pm pu ⟨Es, Rs ++ [fr]⟩ ((tblD X 1 lv fr pg).f + pg % cov lv) acc = m := ⟨_, rfl⟩
 have hg1 : 0 ≤ ((tblD X 1 lv fr pg).f + pg % cov lv) → uE.length ≤ Es.length + 1 := fun h => (midW_good t0 h hG hm1).2.1
 have hu : uE.length ≤ 90000 := by have := hg1 (by omega); omega
 exact wpI_ex mixedT Tryz.f39 [.code (seqR (blkC (seqL (seqR (bodyOf (nthLoop Tryz.f39 0)))))), .blk 1, .code (seqR (seqR (bodyOf (nthLoop Tryz.f39 0))))] [(0, .pointer (some ⟨b, 0, none⟩)), (1, .int .i64 lv), (2, .int .i64 fr), (3, .int .i64 pg), (4, .int .i64 acc), (11, .pointer (some ⟨b11, 0, none⟩)), (12, .int .i64 mid)] [⟨b, 0, 84, wkC f l c on1 of1 tg1 tf tg pc pf pm pw pd pu (.slice fE Es.length cE) (.slice fD Ds.length cD) (.slice fR Rs.length cR), .own⟩, ownFx KE.t 14 fE Es.length cE (rcells KE Es), ownFx KI.t 4 fD Ds.length cD (rcells KI Ds), ownFx 3 1 fR Rs.length cR (icells Rs), ⟨b11, 0, 44, (fltC flt0), .own⟩] (.r 12 [a1 4 0 15, (7, .opc (.call ⟨.builtin .append, #[(.tmp 83), (.tmp 85)], #[25, 25]⟩) (fun E => [.slice fR Rs.length cR, .slice (some ⟨E.b 5, 0, none⟩) 1 1]) (fun E => .slice (E.f 6) (Rs ++ [fr]).length (E.b 6)) [(3, (fun _ => ownFx 3 1 fR Rs.length cR (icells Rs))), (5, (fun E => ⟨E.b 5, 0, 3, [.int .i64 fr], .own⟩))] [(3, fun _ => noBx)] 6 [fun E => OwnP 3 1 (E.f 6) (Rs ++ [fr]).length (E.b 6) (icells (Rs ++ [fr]))]), a1 10 0 15] (.r 13 [a1 3 0 0, (7, .call 45 (fun _ => [.agg #[.slice f l c], .int .i64 1, .int .i64 lv, .int .i64 fr, .int .i64 pg]) (fun _ => dscV (tblD X 1 lv fr pg))), aN 9 7 0 9] (.r 14 [a1 1 7 0] (.split ((tblD X 1 lv fr pg).k == 1) (.r 15 [a1 1 7 1] (.r 3 [(1, .rw (fun _ => .int .i64 (IntKind.i64.wrap (lv + 1))) (fun _ => .int .i64 (lv + 1)))] (.out none (fun _ => [(0, .pointer (some ⟨b, 0, none⟩)), (1, .int .i64 (lv + 1)), (2, .int .i64 (-1)), (3, .int .i64 pg), (4, .int .i64 acc), (11, .pointer (some ⟨b11, 0, none⟩)), (12, .int .i64 (tblD X 1 lv fr pg).f)]) [(0, (fun E => ⟨b, 0, 84, wkC f l c on1 of1 tg1 tf tg pc pf pm pw pd pu (.slice fE Es.length cE) (.slice fD Ds.length cD) (.slice (E.f 6) (Rs ++ [fr]).length (E.b 6)), .own⟩)), (1, (fun _ => ownFx KE.t 14 fE Es.length cE (rcells KE Es))), (2, (fun _ => ownFx KI.t 4 fD Ds.length cD (rcells KI Ds))), (6, (fun E => ownFx 3 1 (E.f 6) (Rs ++ [fr]).length (E.b 6) (icells (Rs ++ [fr])))), (4, (fun _ => ⟨b11, 0, 44, (fltC flt0), .own⟩))]))) (.r 16 [a1 1 7 0] (.split ((tblD X 1 lv fr pg).k == 0) (.r 17 [aN 4 4 0 5] (.fin [(4, 0, 5)] (fun _ => .tuple #[.int .i64 0, .agg #[.int .i64 2, .int .i64 1, .int .i64 lv, .bool false, .int .i64 pg]]) [(0, (fun E => ⟨b, 0, 84, wkC f l c on1 of1 tg1 tf tg pc pf pm pw pd pu (.slice fE Es.length cE) (.slice fD Ds.length cD) (.slice (E.f 6) (Rs ++ [fr]).length (E.b 6)), .own⟩)), (1, (fun _ => ownFx KE.t 14 fE Es.length cE (rcells KE Es))), (2, (fun _ => ownFx KI.t 4 fD Ds.length cD (rcells KI Ds))), (6, (fun E => ownFx 3 1 (E.f 6) (Rs ++ [fr]).length (E.b 6) (icells (Rs ++ [fr]))))])) (.r 18 [aN 1 7 2 6, (5, .call 46 (fun _ => [.agg #[.bool (tblD X 1 lv fr pg).r, .bool (tblD X 1 lv fr pg).w, .bool (tblD X 1 lv fr pg).x, .bool (tblD X 1 lv fr pg).a, .bool (tblD X 1 lv fr pg).n, .int .i64 (tblD X 1 lv fr pg).s], .int .i64 acc, .int .i64 1, .int .i64 lv, .int .i64 pg]) (fun _ => fltV (flagA (tblD X 1 lv fr pg).at' acc 1 lv pg))), aN 7 8 0 5] (.r 19 [a1 1 8 0] (.split ((flagA (tblD X 1 lv fr pg).at' acc 1 lv pg).k != 0) (.r 20 [aN 0 8 0 5, aN 2 4 0 5] (.fin [(4, 0, 5)] (fun _ => .tuple #[.int .i64 0, fltV (flagA (tblD X 1 lv fr pg).at' acc 1 lv pg)]) [(0, (fun E => ⟨b, 0, 84, wkC f l c on1 of1 tg1 tf tg pc pf pm pw pd pu (.slice fE Es.length cE) (.slice fD Ds.length cD) (.slice (E.f 6) (Rs ++ [fr]).length (E.b 6)), .own⟩)), (1, (fun _ => ownFx KE.t 14 fE Es.length cE (rcells KE Es))), (2, (fun _ => ownFx KI.t 4 fD Ds.length cD (rcells KI Ds))), (6, (fun E => ownFx 3 1 (E.f 6) (Rs ++ [fr]).length (E.b 6) (icells (Rs ++ [fr]))))])) (.r 21 [a1 1 7 1, (4, .call 47 (fun _ => [.int .i64 lv]) (fun _ => .int .i64 (cov lv))), (5, .opc (.binOp .rem 3 (.tmp 120) (.tmp 122) 3) (fun _ => [.int .i64 pg, .int .i64 (cov lv)]) (fun _ => .int .i64 (pg % cov lv)) [] [] 0 []), (6, .rw (fun _ => .int .i64 (IntKind.i64.wrap ((tblD X 1 lv fr pg).f + (pg % cov lv)))) (fun _ => .int .i64 ((tblD X 1 lv fr pg).f + pg % cov lv)))] (.r 22 [(3, .callg 36 (fun _ => [.pointer (some ⟨b, 0, none⟩), .int .i64 ((tblD X 1 lv fr pg).f + pg % cov lv), .int .i64 acc]) (fun _ => .tuple #[.int .i64 nf, .agg #[.bool nt.r, .bool nt.w, .bool nt.x, .bool nt.a, .bool nt.n, .int .i64 nt.s], fltV ux]) [(0, (fun E => ⟨b, 0, 84, wkC f l c on1 of1 tg1 tf tg pc pf pm pw pd pu (.slice fE Es.length cE) (.slice fD Ds.length cD) (.slice (E.f 6) (Rs ++ [fr]).length (E.b 6)), .own⟩)), (1, (fun _ => ownFx KE.t 14 fE Es.length cE (rcells KE Es))), (2, (fun _ => ownFx KI.t 4 fD Ds.length cD (rcells KI Ds))), (6, (fun E => ownFx 3 1 (E.f 6) (Rs ++ [fr]).length (E.b 6) (icells (Rs ++ [fr]))))] [(0, (fun E => ⟨b, 0, 84, wkC f l c on1 of1 tg1 tf tg pc pf pm pw pd pu (.slice (E.f 9) uE.length (E.b 9)) (.slice (E.f 10) Ds.length (E.b 10)) (.slice (E.f 11) uR.length (E.b 11)), .own⟩)), (1, (fun _ => noBx)), (2, (fun _ => noBx)), (6, (fun _ => noBx))] 9 [fun E => OwnP KE.t 14 (E.f 9) uE.length (E.b 9) (rcells KE uE), fun E => OwnP KI.t 4 (E.f 10) Ds.length (E.b 10) (rcells KI Ds), fun E => OwnP 3 1 (E.f 11) uR.length (E.b 11) (icells uR)]), aN 10 12 0 6, aN 11 8 0 5] (.r 23 [a1 1 8 0] (.split (ux.k != 0) (.r 24 [aN 0 8 0 5, aN 2 4 0 5] (.fin [(4, 0, 5)] (fun _ => .tuple #[.int .i64 0, fltV ux]) [(0, (fun E => ⟨b, 0, 84, wkC f l c on1 of1 tg1 tf tg pc pf pm pw pd pu (.slice (E.f 9) uE.length (E.b 9)) (.slice (E.f 10) Ds.length (E.b 10)) (.slice (E.f 11) uR.length (E.b 11)), .own⟩)), (9, (fun E => ownFx KE.t 14 (E.f 9) uE.length (E.b 9) (rcells KE uE))), (10, (fun E => ownFx KI.t 4 (E.f 10) Ds.length (E.b 10) (rcells KI Ds))), (11, (fun E => ownFx 3 1 (E.f 11) uR.length (E.b 11) (icells uR)))])) (.r 25 [a1 4 0 10] (.split (pf) (.r 26 [aN 1 7 2 6, aN 2 12 0 6, (4, .callg 44 (fun E => [.slice (some ⟨E.b 13, 0, none⟩) 2 2]) (fun _ => .agg #[.bool (bothL [(tblD X 1 lv fr pg).at', nt]).r, .bool (bothL [(tblD X 1 lv fr pg).at', nt]).w, .bool (bothL [(tblD X 1 lv fr pg).at', nt]).x, .bool (bothL [(tblD X 1 lv fr pg).at', nt]).a, .bool (bothL [(tblD X 1 lv fr pg).at', nt]).n, .int .i64 (bothL [(tblD X 1 lv fr pg).at', nt]).s]) [(13, (fun E => ⟨E.b 13, 0, 60, [.bool (tblD X 1 lv fr pg).r, .bool (tblD X 1 lv fr pg).w, .bool (tblD X 1 lv fr pg).x, .bool (tblD X 1 lv fr pg).a, .bool (tblD X 1 lv fr pg).n, .int .i64 (tblD X 1 lv fr pg).s, .bool nt.r, .bool nt.w, .bool nt.x, .bool nt.a, .bool nt.n, .int .i64 nt.s], .own⟩))] [] 14 []), aN 6 14 0 6] (.r 27 [aN 4 0 1 2, a1 9 0 8, a1 14 0 5, a1 16 14 4, aN 21 14 0 6, (23, .callg 65 (fun E => [.agg #[.slice (E.f 9) uE.length (E.b 9), .slice (E.f 10) Ds.length (E.b 10)], .agg #[.int .i64 1, .int .i64 tg, .int .i64 tg1, .bool (!(bothL [(tblD X 1 lv fr pg).at', nt]).n), .int .i64 pg, .int .i64 0, .int .i64 nf, .int .i64 ((tblD X 1 lv fr pg).f + pg % cov lv), .bool (bothL [(tblD X 1 lv fr pg).at', nt]).r, .bool (bothL [(tblD X 1 lv fr pg).at', nt]).w, .bool (bothL [(tblD X 1 lv fr pg).at', nt]).x, .bool (bothL [(tblD X 1 lv fr pg).at', nt]).a, .bool (bothL [(tblD X 1 lv fr pg).at', nt]).n, .int .i64 (bothL [(tblD X 1 lv fr pg).at', nt]).s]]) (fun E => .agg #[.slice (E.f 15) (fill9 uE ⟨1, tg, tg1, !(bothL [(tblD X 1 lv fr pg).at', nt]).n, pg, 0, nf, (tblD X 1 lv fr pg).f + pg % cov lv, bothL [(tblD X 1 lv fr pg).at', nt]⟩).length (E.b 15), .slice (E.f 16) Ds.length (E.b 16)]) [(9, (fun E => ownFx KE.t 14 (E.f 9) uE.length (E.b 9) (rcells KE uE))), (10, (fun E => ownFx KI.t 4 (E.f 10) Ds.length (E.b 10) (rcells KI Ds)))] [] 15 [fun E => OwnP KE.t 14 (E.f 15) (fill9 uE ⟨1, tg, tg1, !(bothL [(tblD X 1 lv fr pg).at', nt]).n, pg, 0, nf, (tblD X 1 lv fr pg).f + pg % cov lv, bothL [(tblD X 1 lv fr pg).at', nt]⟩).length (E.b 15) (rcells KE (fill9 uE ⟨1, tg, tg1, !(bothL [(tblD X 1 lv fr pg).at', nt]).n, pg, 0, nf, (tblD X 1 lv fr pg).f + pg % cov lv, bothL [(tblD X 1 lv fr pg).at', nt]⟩)), fun E => OwnP KI.t 4 (E.f 16) Ds.length (E.b 16) (rcells KI Ds)]), aN 26 0 1 2] (.r 28 [aN 3 4 0 5] (.fin [(4, 0, 5)] (fun _ => .tuple #[.int .i64 nf, fltV flt0]) [(0, (fun E => ⟨b, 0, 84, wkC f l c on1 of1 tg1 tf tg pc pf pm pw pd pu (.slice (E.f 15) (fill9 uE ⟨1, tg, tg1, !(bothL [(tblD X 1 lv fr pg).at', nt]).n, pg, 0, nf, (tblD X 1 lv fr pg).f + pg % cov lv, bothL [(tblD X 1 lv fr pg).at', nt]⟩).length (E.b 15)) (.slice (E.f 16) Ds.length (E.b 16)) (.slice (E.f 11) uR.length (E.b 11)), .own⟩)), (15, (fun E => ownFx KE.t 14 (E.f 15) (fill9 uE ⟨1, tg, tg1, !(bothL [(tblD X 1 lv fr pg).at', nt]).n, pg, 0, nf, (tblD X 1 lv fr pg).f + pg % cov lv, bothL [(tblD X 1 lv fr pg).at', nt]⟩).length (E.b 15) (rcells KE (fill9 uE ⟨1, tg, tg1, !(bothL [(tblD X 1 lv fr pg).at', nt]).n, pg, 0, nf, (tblD X 1 lv fr pg).f + pg % cov lv, bothL [(tblD X 1 lv fr pg).at', nt]⟩)))), (16, (fun E => ownFx KI.t 4 (E.f 16) Ds.length (E.b 16) (rcells KI Ds))), (11, (fun E => ownFx 3 1 (E.f 11) uR.length (E.b 11) (icells uR)))])))) (.r 28 [aN 3 4 0 5] (.fin [(4, 0, 5)] (fun _ => .tuple #[.int .i64 nf, fltV flt0]) [(0, (fun E => ⟨b, 0, 84, wkC f l c on1 of1 tg1 tf tg pc pf pm pw pd pu (.slice (E.f 9) uE.length (E.b 9)) (.slice (E.f 10) Ds.length (E.b 10)) (.slice (E.f 11) uR.length (E.b 11)), .own⟩)), (9, (fun E => ownFx KE.t 14 (E.f 9) uE.length (E.b 9) (rcells KE uE))), (10, (fun E => ownFx KI.t 4 (E.f 10) Ds.length (E.b 10) (rcells KI Ds))), (11, (fun E => ownFx 3 1 (E.f 11) uR.length (E.b 11) (icells uR)))]))))))))))))))))) hT hF (⟨fun E W ρ o ho hx hk hp => pushN_opc ho hx hk hp.1 rfl (by omega), fun _ W hk => tblR_any f l c X 1 lv fr pg W (hX W hk) (by have := okM_true hM; omega) hpl p0 p1 f0 f1, fun hS1 => ⟨fun _ => by rw [hl9], fun E _ _ hT1 hF1 => ⟨⟨n - 1, -1, (tblD X 1 lv fr pg).f, Es, Rs ++ [fr], fE, fD, E.f 6, cE, cD, E.b 6⟩, by simp only [decide_eq_true_eq, decide_eq_false_iff_not, bne_iff_ne, bne_eq_false_iff_eq, beq_iff_eq, beq_eq_false_iff_ne, ne_eq] at hS1; simp only [dscA, AcW.mid, ne_eq, hS1, not_true_eq_false, not_false_eq_true, if_true, if_false, Bool.false_eq_true] at hz; have h3 := h13 hS1; refine ⟨by simp only; omega, by simp only; omega, hdf.1, hdf.2, hG, by simp only; omega, by simp only [List.length_append, List.length_singleton]; omega, ?_, ?_, hF1⟩ <;> rw [show (3 - ((n - 1 : Nat) : Int)) = lv + 1 by omega]; (rw [show n - 1 + 1 = n by omega]; exact hz); exact hT1, by have h3 := h13 (beq_iff_eq.1 hS1); simp only; omega⟩⟩, fun hS1 => ⟨fun hS2 => fun E W hk hp => by simp only [decide_eq_true_eq, decide_eq_false_iff_not, bne_iff_ne, bne_eq_false_iff_eq, beq_iff_eq, beq_eq_false_iff_ne, ne_eq] at hS1 hS2; simp only [dscA, AcW.mid, hm1, ne_eq, hS1, hS2, not_true_eq_false, not_false_eq_true, if_true, if_false, Bool.false_eq_true] at hz; subst hz; exact ⟨fE, cE, fD, cD, E.f 6, E.b 6, rfl, hp.2 rfl⟩, fun hS2 => ⟨fun _ W _ => flagA_any (tblD X 1 lv fr pg).at' acc 1 lv pg W, fun hS3 => fun E W hk hp => by simp only [decide_eq_true_eq, decide_eq_false_iff_not, bne_iff_ne, bne_eq_false_iff_eq, beq_iff_eq, beq_eq_false_iff_ne, ne_eq] at hS1 hS2 hS3; simp only [dscA, AcW.mid, hm1, ne_eq, hS1, hS2, hS3, not_true_eq_false, not_false_eq_true, if_true, if_false, Bool.false_eq_true] at hz; subst hz; exact ⟨fE, cE, fD, cD, E.f 6, E.b 6, rfl, hp.2 rfl⟩, fun hS3 => ⟨fun _ W _ => rcovers_any lv W l0 (by omega), fun _ W _ _ ho hx hk _ => by rw [← ht9]; exact rem_opc ho hx hk hc9, fun _ => by rw [hw9], fun E W hk hp => (wmid_any b f l c on1 of1 tg1 tf tg pc pf pm pw pd pu X ⟨Es, (Rs ++ [fr])⟩ Ds ((tblD X 1 lv fr pg).f + pg % cov lv) acc fE fD (E.f 6) cE cD (E.b 6) W ((hp.2 rfl).self cover4) hM t0 t1 (hin hS1 hS2).1 (hin hS1 hS2).2 (fun w hw => hX w (hk.under hw (cov4 (hp.2 rfl)))) (by simp only; omega) (by omega) (by simp only [List.length_append, List.length_singleton]; omega)).mono fun e w' h => mid_post hk hp.1 (by rw [hm1] at h; exact h), fun hS4 => fun E W hk hp => by simp only [decide_eq_true_eq, decide_eq_false_iff_not, bne_iff_ne, bne_eq_false_iff_eq, beq_iff_eq, beq_eq_false_iff_ne, ne_eq] at hS1 hS2 hS3 hS4; simp only [dscA, AcW.mid, hm1, ne_eq, hS1, hS2, hS3, hS4, not_true_eq_false, not_false_eq_true, if_true, if_false, Bool.false_eq_true] at hz; subst hz; exact ⟨E.f 9, E.b 9, E.f 10, E.b 10, E.f 11, E.b 11, rfl, hp.2 rfl⟩, fun hS4 => ⟨fun hS5 => ⟨fun E W hk hp => (bothA_any _ 2 2 [(tblD X 1 lv fr pg).at', nt] W (rows_two (hp.1 _ (List.mem_singleton.2 rfl)).2.2 rfl) rfl (show (2 : Nat) ≤ 100000 by decide)).mono fun e w' h => GPost.quiet hk h, fun E W hk hp => (fill9_end ⟨1, tg, tg1, !(bothL [(tblD X 1 lv fr pg).at', nt]).n, pg, 0, nf, (tblD X 1 lv fr pg).f + pg % cov lv, bothL [(tblD X 1 lv fr pg).at', nt]⟩ (hp.1 _ (List.mem_cons_self ..)).2.2.1 (hp.1 _ (List.mem_cons_of_mem _ (List.mem_singleton.2 rfl))).2.2.1 (by omega) (by omega)).mono fun e w' h => fill_end hk h, fun E W hk hp => by simp only [decide_eq_true_eq, decide_eq_false_iff_not, bne_iff_ne, bne_eq_false_iff_eq, beq_iff_eq, beq_eq_false_iff_ne, ne_eq] at hS1 hS2 hS3 hS4 hS5; simp only [dscA, AcW.mid, hm1, ne_eq, hS1, hS2, hS3, hS4, hS5, not_true_eq_false, not_false_eq_true, if_true, if_false, Bool.false_eq_true] at hz; subst hz; exact ⟨E.f 15, E.b 15, E.f 16, E.b 16, E.f 11, E.b 11, rfl, hp.2 rfl⟩⟩, fun hS5 => fun E W hk hp => by simp only [decide_eq_true_eq, decide_eq_false_iff_not, bne_iff_ne, bne_eq_false_iff_eq, beq_iff_eq, beq_eq_false_iff_ne, ne_eq] at hS1 hS2 hS3 hS4 hS5; simp only [dscA, AcW.mid, hm1, ne_eq, hS1, hS2, hS3, hS4, hS5, not_true_eq_false, not_false_eq_true, if_true, if_false, Bool.false_eq_true] at hz; subst hz; exact ⟨E.f 9, E.b 9, E.f 10, E.b 10, E.f 11, E.b 11, rfl, hp.2 rfl⟩⟩⟩⟩⟩⟩) (R := (StgR b b11 f l c on1 of1 tg1 tf tg pc pf pm pw pd pu X Ds pg acc ft w0 z)) (J := fun e a w => match e with | .normal => ∃ x, StgI b b11 f l c on1 of1 tg1 tf tg pc pf pm pw pd pu X Ds pg acc ft w0 z x a w ∧ x.n < n | _ => False) hQr (fun e a w h => by cases e with | none => exact hQn a w h | some _ => exact h.elim) (fun _ => by kernel_rfl)
set_option maxRecDepth 100000 in
theorem stage_tab (b b11 : Nat) (f : Option Addr) (l c : Nat) (on1 : Bool) (of1 tg1 tf tg pc : Int) (pf pm pw : Bool) (pd : Int) (pu : Bool) (X : Nat → BitVec 64) (Ds : List Inv) (pg acc : Int) {ft : List Nat} {w0 W : World} {a : Act} {Q : Exit → Act → World → Prop} {z : AcR} (hM : okM l = true) (t0 : 0 ≤ tf) (t1 : tf ≤ 4095) (p0 : 0 ≤ pg) (p1 : pg ≤ 4095) (hX : ∀ w, Keep ft w0 w → WordsAt w f l X) (hd : Ds.length ≤ 90000)
  (n : Nat) (lv fr mid : Int) (Es : List Ety) (Rs : List Int) (fE fD fR : Option Addr) (cE cD cR : Nat) (hn : n ≤ 3) (hlv : 3 - (n : Int) = lv) (f1 : fr * 8 + 8 ≤ l) (m0 : 0 ≤ mid) (m1 : mid ≤ 4095) (hG : GoodE l Es) (hle : Es.length + 3 * n ≤ 80000) (hlr : Rs.length + 10 * n ≤ 80000)
  (hz : stageA (stgW l X of1 tg1 tf tg pf pm pw pu) pg acc (n + 1) lv fr mid ⟨Es, Rs⟩ = z)
  (hT : Has Tryz.f39.ntmps [(0, .pointer (some ⟨b, 0, none⟩)), (1, .int .i64 lv), (2, .int .i64 fr), (3, .int .i64 pg), (4, .int .i64 acc), (11, .pointer (some ⟨b11, 0, none⟩)), (12, .int .i64 mid)] a) (hF : Fits ft w0 [⟨b, 0, 84, wkC f l c on1 of1 tg1 tf tg pc pf pm pw pd pu (.slice fE Es.length cE) (.slice fD Ds.length cD) (.slice fR Rs.length cR), .own⟩, ownFx KE.t 14 fE Es.length cE (rcells KE Es), ownFx KI.t 4 fD Ds.length cD (rcells KI Ds), ownFx 3 1 fR Rs.length cR (icells Rs), ⟨b11, 0, 44, fltC flt0, .own⟩] W) (hQr : ∀ a w, bodyPost Tryz.prog Tryz.f39 (StgR b b11 f l c on1 of1 tg1 tf tg pc pf pm pw pd pu X Ds pg acc ft w0 z) .ret a w → Q .ret a w) (hQn : ∀ a w, (∃ x, StgI b b11 f l c on1 of1 tg1 tf tg pc pf pm pw pd pu X Ds pg acc ft w0 z x a w ∧ x.n < n) → Q .normal a w) :
  (seqL (blkC (seqL (seqR (bodyOf (nthLoop Tryz.f39 0)))))).wp Tryz.prog (wpI Tryz.prog Q [.code (seqR (blkC (seqL (seqR (bodyOf (nthLoop Tryz.f39 0)))))), .blk 1, .code (seqR (seqR (bodyOf (nthLoop Tryz.f39 0))))]) a W := by
 have hpl : placeB 1 lv = true := placeB_iff.2 ⟨Or.inl rfl, by omega, by omega⟩
 have hl9 : IntKind.i64.wrap (lv + 1) = lv + 1 := IntWalk.i64_in _ (by omega)
 have hs9 : IntKind.i64.wrap (lv - 1) = lv - 1 := IntWalk.i64_in _ (by omega)
 have l0 : 0 ≤ lv := by omega
 obtain ⟨⟨⟨mf, mt, mx⟩, ⟨sE, sR⟩⟩, hm0⟩ : ∃ m, midW l X tf tg pm pu ⟨Es, Rs⟩ mid 0 = m := ⟨_, rfl⟩
 have hg := midW_good t0 m0 hG hm0
 have hg4 := hg.2.2.2
 have hg2 : sE.length ≤ Es.length + 1 := hg.2.1
 simp only at hg hg4
 obtain ⟨q0, hq0⟩ : ∃ b, (decide ((fr : Int) < 0)) = b := ⟨_, rfl⟩
 obtain ⟨q1, hq1⟩ : ∃ b, (mx.k != 0) = b := ⟨_, rfl⟩
 obtain ⟨q2, hq2⟩ : ∃ b, (decide ((lv : Int) > 0)) = b := ⟨_, rfl⟩
 exact wp_ex mixedT Tryz.f39 [(0, .pointer (some ⟨b, 0, none⟩)), (1, .int .i64 lv), (2, .int .i64 fr), (3, .int .i64 pg), (4, .int .i64 acc), (11, .pointer (some ⟨b11, 0, none⟩)), (12, .int .i64 mid)] [⟨b, 0, 84, wkC f l c on1 of1 tg1 tf tg pc pf pm pw pd pu (.slice fE Es.length cE) (.slice fD Ds.length cD) (.slice fR Rs.length cR), .own⟩, ownFx KE.t 14 fE Es.length cE (rcells KE Es), ownFx KI.t 4 fD Ds.length cD (rcells KI Ds), ownFx 3 1 fR Rs.length cR (icells Rs), ⟨b11, 0, 44, (fltC flt0), .own⟩] (.r 4 [(1, .rw (fun _ => .bool (decide ((fr : Int) < 0))) (fun _ => .bool q0))] (.split (q0) (.r 5 [(2, .callg 36 (fun _ => [.pointer (some ⟨b, 0, none⟩), .int .i64 mid, .int .i64 0]) (fun _ => .tuple #[.int .i64 mf, .agg #[.bool mt.r, .bool mt.w, .bool mt.x, .bool mt.a, .bool mt.n, .int .i64 mt.s], fltV mx]) [(0, (fun _ => ⟨b, 0, 84, wkC f l c on1 of1 tg1 tf tg pc pf pm pw pd pu (.slice fE Es.length cE) (.slice fD Ds.length cD) (.slice fR Rs.length cR), .own⟩)), (1, (fun _ => ownFx KE.t 14 fE Es.length cE (rcells KE Es))), (2, (fun _ => ownFx KI.t 4 fD Ds.length cD (rcells KI Ds))), (3, (fun _ => ownFx 3 1 fR Rs.length cR (icells Rs)))] [(0, (fun E => ⟨b, 0, 84, wkC f l c on1 of1 tg1 tf tg pc pf pm pw pd pu (.slice (E.f 5) sE.length (E.b 5)) (.slice (E.f 6) Ds.length (E.b 6)) (.slice (E.f 7) sR.length (E.b 7)), .own⟩)), (1, (fun _ => noBx)), (2, (fun _ => noBx)), (3, (fun _ => noBx))] 5 [fun E => OwnP KE.t 14 (E.f 5) sE.length (E.b 5) (rcells KE sE), fun E => OwnP KI.t 4 (E.f 6) Ds.length (E.b 6) (rcells KI Ds), fun E => OwnP 3 1 (E.f 7) sR.length (E.b 7) (icells sR)]), aN 10 8 0 6, aN 11 9 0 5] (.r 6 [a1 1 9 0, (2, .rw (fun _ => .bool (mx.k != 0)) (fun _ => .bool q1))] (.split (q1) (.r 7 [a1 1 9 3] (.r 8 [aN 0 9 0 5, aN 2 4 0 5] (.fin [(4, 0, 5)] (fun _ => .tuple #[.int .i64 0, .agg #[.int .i64 mx.k, .int .i64 mx.st, .int .i64 mx.lv, .bool true, .int .i64 mx.p]]) [(0, (fun E => ⟨b, 0, 84, wkC f l c on1 of1 tg1 tf tg pc pf pm pw pd pu (.slice (E.f 5) sE.length (E.b 5)) (.slice (E.f 6) Ds.length (E.b 6)) (.slice (E.f 7) sR.length (E.b 7)), .own⟩)), (5, (fun E => ownFx KE.t 14 (E.f 5) sE.length (E.b 5) (rcells KE sE))), (6, (fun E => ownFx KI.t 4 (E.f 6) Ds.length (E.b 6) (rcells KI Ds))), (7, (fun E => ownFx 3 1 (E.f 7) sR.length (E.b 7) (icells sR)))]))) (.r 10 [(1, .rw (fun _ => .bool (decide ((lv : Int) > 0))) (fun _ => .bool q2)), a1 7 0 12] (.split (q2 && pw) (.r 11 [aN 4 0 1 2, a1 9 0 8, a1 14 0 5, (17, .rw (fun _ => .int .i64 (IntKind.i64.wrap (lv - 1))) (fun _ => .int .i64 (lv - 1))), (19, .call 70 (fun _ => [.int .i64 (lv - 1), .int .i64 pg]) (fun _ => .int .i64 (pg - pg % cov (lv - 1)))), (22, .callg 65 (fun E => [.agg #[.slice (E.f 5) sE.length (E.b 5), .slice (E.f 6) Ds.length (E.b 6)], .agg #[.int .i64 3, .int .i64 tg, .int .i64 tg1, .bool false, .int .i64 (pg - pg % cov (lv - 1)), .int .i64 lv, .int .i64 mf, .int .i64 0, .bool false, .bool false, .bool false, .bool false, .bool false, .int .i64 0]]) (fun E => .agg #[.slice (E.f 10) (fill9 sE ⟨3, tg, tg1, false, pg - pg % cov (lv - 1), lv, mf, 0, atr0⟩).length (E.b 10), .slice (E.f 11) Ds.length (E.b 11)]) [(5, (fun E => ownFx KE.t 14 (E.f 5) sE.length (E.b 5) (rcells KE sE))), (6, (fun E => ownFx KI.t 4 (E.f 6) Ds.length (E.b 6) (rcells KI Ds)))] [] 10 [fun E => OwnP KE.t 14 (E.f 10) (fill9 sE ⟨3, tg, tg1, false, pg - pg % cov (lv - 1), lv, mf, 0, atr0⟩).length (E.b 10) (rcells KE (fill9 sE ⟨3, tg, tg1, false, pg - pg % cov (lv - 1), lv, mf, 0, atr0⟩)), fun E => OwnP KI.t 4 (E.f 11) Ds.length (E.b 11) (rcells KI Ds)]), aN 25 0 1 2] (.out none (fun _ => [(0, .pointer (some ⟨b, 0, none⟩)), (1, .int .i64 lv), (2, .int .i64 mf), (3, .int .i64 pg), (4, .int .i64 acc), (11, .pointer (some ⟨b11, 0, none⟩)), (12, .int .i64 mid)]) [(0, (fun E => ⟨b, 0, 84, wkC f l c on1 of1 tg1 tf tg pc pf pm pw pd pu (.slice (E.f 10) (fill9 sE ⟨3, tg, tg1, false, pg - pg % cov (lv - 1), lv, mf, 0, atr0⟩).length (E.b 10)) (.slice (E.f 11) Ds.length (E.b 11)) (.slice (E.f 7) sR.length (E.b 7)), .own⟩)), (10, (fun E => ownFx KE.t 14 (E.f 10) (fill9 sE ⟨3, tg, tg1, false, pg - pg % cov (lv - 1), lv, mf, 0, atr0⟩).length (E.b 10) (rcells KE (fill9 sE ⟨3, tg, tg1, false, pg - pg % cov (lv - 1), lv, mf, 0, atr0⟩)))), (11, (fun E => ownFx KI.t 4 (E.f 11) Ds.length (E.b 11) (rcells KI Ds))), (7, (fun E => ownFx 3 1 (E.f 7) sR.length (E.b 7) (icells sR))), (4, (fun _ => ⟨b11, 0, 44, (fltC flt0), .own⟩))])) (.out none (fun _ => [(0, .pointer (some ⟨b, 0, none⟩)), (1, .int .i64 lv), (2, .int .i64 mf), (3, .int .i64 pg), (4, .int .i64 acc), (11, .pointer (some ⟨b11, 0, none⟩)), (12, .int .i64 mid)]) [(0, (fun E => ⟨b, 0, 84, wkC f l c on1 of1 tg1 tf tg pc pf pm pw pd pu (.slice (E.f 5) sE.length (E.b 5)) (.slice (E.f 6) Ds.length (E.b 6)) (.slice (E.f 7) sR.length (E.b 7)), .own⟩)), (5, (fun E => ownFx KE.t 14 (E.f 5) sE.length (E.b 5) (rcells KE sE))), (6, (fun E => ownFx KI.t 4 (E.f 6) Ds.length (E.b 6) (rcells KI Ds))), (7, (fun E => ownFx 3 1 (E.f 7) sR.length (E.b 7) (icells sR))), (4, (fun _ => ⟨b11, 0, 44, (fltC flt0), .own⟩))])))))) (.out none (fun _ => [(0, .pointer (some ⟨b, 0, none⟩)), (1, .int .i64 lv), (2, .int .i64 fr), (3, .int .i64 pg), (4, .int .i64 acc), (11, .pointer (some ⟨b11, 0, none⟩)), (12, .int .i64 mid)]) [(0, (fun _ => ⟨b, 0, 84, wkC f l c on1 of1 tg1 tf tg pc pf pm pw pd pu (.slice fE Es.length cE) (.slice fD Ds.length cD) (.slice fR Rs.length cR), .own⟩)), (1, (fun _ => ownFx KE.t 14 fE Es.length cE (rcells KE Es))), (2, (fun _ => ownFx KI.t 4 fD Ds.length cD (rcells KI Ds))), (3, (fun _ => ownFx 3 1 fR Rs.length cR (icells Rs))), (4, (fun _ => ⟨b11, 0, 44, (fltC flt0), .own⟩))]))) hT hF (⟨fun _ => congrArg Value.bool hq0, fun hS7 => ⟨fun E W hk hp => (wmid_any b f l c on1 of1 tg1 tf tg pc pf pm pw pd pu X ⟨Es, Rs⟩ Ds mid 0 fE fD fR cE cD cR W ((hp.2 rfl).self cover4) hM t0 t1 m0 m1 (fun w hw => hX w (hk.under hw (cov4 (hp.2 rfl)))) (by simp only; omega) (by omega) (by simp only [List.length_append, List.length_singleton]; omega)).mono fun e w' h => mid_post hk hp.1 (by rw [hm0] at h; exact h), fun _ => congrArg Value.bool hq1, fun hS8 => fun E W hk hp => by subst hq0 hq1 hq2; simp only [decide_eq_true_eq, decide_eq_false_iff_not, bne_iff_ne, bne_eq_false_iff_eq, beq_iff_eq, beq_eq_false_iff_ne, ne_eq] at hS7 hS8; simp only [stageA, tabA, AcW.mid, fltW, hm0, ne_eq, hS7, hS8, not_true_eq_false, not_false_eq_true, if_true, if_false, Bool.false_eq_true] at hz; subst hz; exact ⟨E.f 5, E.b 5, E.f 6, E.b 6, E.f 7, E.b 7, rfl, hp.2 rfl⟩, fun hS8 => ⟨fun _ => congrArg Value.bool hq2, fun hS9 => ⟨fun _ => by rw [hs9], fun _ W _ => cut9_any (lv - 1) pg W (by subst hq0 hq1 hq2; have hgd := hS9; simp only [Bool.and_eq_true, decide_eq_true_eq] at hgd; omega) (by omega) p0 p1, fun E W hk hp => (fill9_end ⟨3, tg, tg1, false, pg - pg % cov (lv - 1), lv, mf, 0, atr0⟩ (hp.1 _ (List.mem_cons_self ..)).2.2.1 (hp.1 _ (List.mem_cons_of_mem _ (List.mem_singleton.2 rfl))).2.2.1 (by omega) (by omega)).mono fun e w' h => fill_end hk h, fun E a w hT1 hF1 => stage_do b b11 f l c on1 of1 tg1 tf tg pc pf pm pw pd pu X Ds pg acc hM t0 t1 p0 p1 hX hd n lv mf mid (fill9 sE ⟨3, tg, tg1, false, pg - pg % cov (lv - 1), lv, mf, 0, atr0⟩) sR (E.f 10) (E.f 11) (E.f 7) (E.b 10) (E.b 11) (E.b 7) hn hlv (hg4 (by simpa using (hq1.trans hS8))).1 (hg4 (by simpa using (hq1.trans hS8))).2 (hg.1.fill (hg4 (by simpa using (hq1.trans hS8))).1 (hg4 (by simpa using (hq1.trans hS8))).2) (by have := hg.2.1; have := fill9_len' sE ⟨3, tg, tg1, false, pg - pg % cov (lv - 1), lv, mf, 0, atr0⟩; omega) (by have := hg.2.2.1; omega) (by subst hq0 hq1 hq2; simp only [decide_eq_true_eq, decide_eq_false_iff_not, bne_iff_ne, bne_eq_false_iff_eq, beq_iff_eq, beq_eq_false_iff_ne, ne_eq] at hS7 hS8 hS9; simp only [stageA, tabA, AcW.mid, hm0, ne_eq, hS7, hS8, hS9, not_true_eq_false, not_false_eq_true, if_true, if_false, Bool.false_eq_true] at hz; exact hz) hT1 hF1 hQr hQn⟩, fun hS9 => fun E a w hT1 hF1 => stage_do b b11 f l c on1 of1 tg1 tf tg pc pf pm pw pd pu X Ds pg acc hM t0 t1 p0 p1 hX hd n lv mf mid sE sR (E.f 5) (E.f 6) (E.f 7) (E.b 5) (E.b 6) (E.b 7) hn hlv (hg4 (by simpa using (hq1.trans hS8))).1 (hg4 (by simpa using (hq1.trans hS8))).2 hg.1 (by have := hg.2.1; omega) (by have := hg.2.2.1; omega) (by subst hq0 hq1 hq2; simp only [decide_eq_true_eq, decide_eq_false_iff_not, bne_iff_ne, bne_eq_false_iff_eq, beq_iff_eq, beq_eq_false_iff_ne, ne_eq] at hS7 hS8 hS9; simp only [stageA, tabA, AcW.mid, hm0, ne_eq, hS7, hS8, hS9, not_true_eq_false, not_false_eq_true, if_true, if_false, Bool.false_eq_true] at hz; exact hz) hT1 hF1 hQr hQn⟩⟩, fun hS7 => fun E a w hT1 hF1 => stage_do b b11 f l c on1 of1 tg1 tf tg pc pf pm pw pd pu X Ds pg acc hM t0 t1 p0 p1 hX hd n lv fr mid Es Rs fE fD fR cE cD cR hn hlv (Int.not_lt.1 (of_decide_eq_false (hq0.trans hS7))) f1 hG (by omega) (by omega) (by subst hq0 hq1 hq2; simp only [decide_eq_true_eq, decide_eq_false_iff_not, bne_iff_ne, bne_eq_false_iff_eq, beq_iff_eq, beq_eq_false_iff_ne, ne_eq] at hS7; simp only [stageA, tabA, AcW.mid, hm0, ne_eq, hS7, not_true_eq_false, not_false_eq_true, if_true, if_false, Bool.false_eq_true] at hz; exact hz) hT1 hF1 hQr hQn⟩) (R := (StgR b b11 f l c on1 of1 tg1 tf tg pc pf pm pw pd pu X Ds pg acc ft w0 z)) (J := fun e a w => match e with | .normal => wpI Tryz.prog Q [.code (seqR (blkC (seqL (seqR (bodyOf (nthLoop Tryz.f39 0)))))), .blk 1, .code (seqR (seqR (bodyOf (nthLoop Tryz.f39 0))))] .normal a w | _ => False) (fun a w h => wpI_ret (k := [.code (seqR (blkC (seqL (seqR (bodyOf (nthLoop Tryz.f39 0)))))), .blk 1, .code (seqR (seqR (bodyOf (nthLoop Tryz.f39 0))))]) (hQr a w h)) (fun e a w h => by cases e with | none => exact h | some _ => exact h.elim) (fun _ => by cases q2 <;> kernel_rfl)
set_option maxRecDepth 100000 in
theorem stage_loop (b b11 : Nat) (f : Option Addr) (l c : Nat) (on1 : Bool) (of1 tg1 tf tg pc : Int) (pf pm pw : Bool) (pd : Int) (pu : Bool) (X : Nat → BitVec 64) (Ds : List Inv) (pg acc : Int) {ft : List Nat} {w0 W : World} {a : Act} {Q : Exit → Act → World → Prop} {z : AcR} (hM : okM l = true) (t0 : 0 ≤ tf) (t1 : tf ≤ 4095) (p0 : 0 ≤ pg) (p1 : pg ≤ 4095) (hX : ∀ w, Keep ft w0 w → WordsAt w f l X) (hd : Ds.length ≤ 90000)
  (x0 : StgX) (hI : StgI b b11 f l c on1 of1 tg1 tf tg pc pf pm pw pd pu X Ds pg acc ft w0 z x0 a W) (hQr : ∀ a w, bodyPost Tryz.prog Tryz.f39 (StgR b b11 f l c on1 of1 tg1 tf tg pc pf pm pw pd pu X Ds pg acc ft w0 z) .ret a w → Q .ret a w) : wpI Tryz.prog Q (.code (nthLoop Tryz.f39 0) :: restAt Tryz.f39 0) .normal a W := by
 rw [show nthLoop Tryz.f39 0 = .loop (bodyOf (nthLoop Tryz.f39 0)) from by kernel_rfl]
 refine wp_lp (fun x a w => StgI b b11 f l c on1 of1 tg1 tf tg pc pf pm pw pd pu X Ds pg acc ft w0 z x a w) (fun x => x.n) x0 hI fun x a w hI => ?_
 obtain ⟨n, fr, mid, Es, Rs, fE, fD, fR, cE, cD, cR⟩ := x
 obtain ⟨hn, f1, m0, m1, hG, hle, hlr, hz, hT, hF⟩ := hI
 simp only at hn f1 m0 m1 hG hle hlr hz hT hF
 obtain ⟨lv, hlv⟩ : ∃ lv, 3 - (n : Int) = lv := ⟨_, rfl⟩
 rw [hlv] at hz hT
 have h4 : decide ((lv : Int) < 4) = true := decide_eq_true (by omega)
 refine body_cut (A := (seqL (bodyOf (nthLoop Tryz.f39 0)))) (C := (seqL (blkC (seqL (seqR (bodyOf (nthLoop Tryz.f39 0))))))) (X := (seqR (blkC (seqL (seqR (bodyOf (nthLoop Tryz.f39 0))))))) (D := (seqR (seqR (bodyOf (nthLoop Tryz.f39 0))))) (id := 1) (by kernel_rfl) ?_
 exact wp_ex mixedT Tryz.f39 [(0, .pointer (some ⟨b, 0, none⟩)), (1, .int .i64 lv), (2, .int .i64 fr), (3, .int .i64 pg), (4, .int .i64 acc), (11, .pointer (some ⟨b11, 0, none⟩)), (12, .int .i64 mid)] [⟨b, 0, 84, wkC f l c on1 of1 tg1 tf tg pc pf pm pw pd pu (.slice fE Es.length cE) (.slice fD Ds.length cD) (.slice fR Rs.length cR), .own⟩, ownFx KE.t 14 fE Es.length cE (rcells KE Es), ownFx KI.t 4 fD Ds.length cD (rcells KI Ds), ownFx 3 1 fR Rs.length cR (icells Rs), ⟨b11, 0, 44, (fltC flt0), .own⟩] (.r 2 [(1, .rw (fun _ => .bool (decide ((lv : Int) < 4))) (fun _ => .bool true))] (.out none (fun _ => [(0, .pointer (some ⟨b, 0, none⟩)), (1, .int .i64 lv), (2, .int .i64 fr), (3, .int .i64 pg), (4, .int .i64 acc), (11, .pointer (some ⟨b11, 0, none⟩)), (12, .int .i64 mid)]) [(0, (fun _ => ⟨b, 0, 84, wkC f l c on1 of1 tg1 tf tg pc pf pm pw pd pu (.slice fE Es.length cE) (.slice fD Ds.length cD) (.slice fR Rs.length cR), .own⟩)), (1, (fun _ => ownFx KE.t 14 fE Es.length cE (rcells KE Es))), (2, (fun _ => ownFx KI.t 4 fD Ds.length cD (rcells KI Ds))), (3, (fun _ => ownFx 3 1 fR Rs.length cR (icells Rs))), (4, (fun _ => ⟨b11, 0, 44, (fltC flt0), .own⟩))])) hT hF (⟨fun _ => congrArg Value.bool h4, fun E a w hT1 hF1 => stage_tab b b11 f l c on1 of1 tg1 tf tg pc pf pm pw pd pu X Ds pg acc hM t0 t1 p0 p1 hX hd n lv fr mid Es Rs fE fD fR cE cD cR hn hlv f1 m0 m1 hG hle hlr hz hT1 hF1 (fun a w h => wpI_ret (hQr a w h)) (fun _ _ h => h)⟩) (R := (StgR b b11 f l c on1 of1 tg1 tf tg pc pf pm pw pd pu X Ds pg acc ft w0 z)) (J := fun e a w => match e with | .normal => (seqL (blkC (seqL (seqR (bodyOf (nthLoop Tryz.f39 0)))))).wp Tryz.prog (wpI Tryz.prog (fun e a w => match e with | .normal => ∃ x : StgX, StgI b b11 f l c on1 of1 tg1 tf tg pc pf pm pw pd pu X Ds pg acc ft w0 z x a w ∧ x.n < n | e => wpI Tryz.prog Q (restAt Tryz.f39 0) e a w) [.code (seqR (blkC (seqL (seqR (bodyOf (nthLoop Tryz.f39 0)))))), .blk 1, .code (seqR (seqR (bodyOf (nthLoop Tryz.f39 0))))]) a w | _ => False) (fun a w h => wpI_ret (hQr a w h)) (fun e a w h => by cases e with | none => exact h | some _ => exact h.elim) (fun _ => by kernel_rfl)
theorem wstage_any (b : Nat) (f : Option Addr) (l c : Nat) (on1 : Bool) (of1 tg1 tf tg pc : Int) (pf pm pw : Bool) (pd : Int) (pu : Bool) (X : Nat → BitVec 64) (Ds : List Inv) (pg acc : Int) {W : World} (n : Nat) (lv fr : Int) (Es : List Ety) (Rs : List Int) (fE fD fR : Option Addr) (cE cD cR : Nat) (hM : okM l = true) (t0 : 0 ≤ tf) (t1 : tf ≤ 4095) (p0 : 0 ≤ pg) (p1 : pg ≤ 4095) (hX : ∀ w, Keep (ft4 b fE fD fR) W w → WordsAt w f l X) (hd : Ds.length ≤ 90000)
  (o0 : 0 ≤ of1) (o1 : of1 ≤ 4095) (hn : n ≤ 3) (hlv : 3 - (n : Int) = lv) (f1 : fr * 8 + 8 ≤ l) (hG : GoodE l Es) (hle : Es.length + 3 * n ≤ 80000) (hlr : Rs.length + 10 * n ≤ 80000)
  (hF : Fits (ft4 b fE fD fR) W [⟨b, 0, 84, wkC f l c on1 of1 tg1 tf tg pc pf pm pw pd pu (.slice fE Es.length cE) (.slice fD Ds.length cD) (.slice fR Rs.length cR), .own⟩, ownFx KE.t 14 fE Es.length cE (rcells KE Es), ownFx KI.t 4 fD Ds.length cD (rcells KI Ds), ownFx 3 1 fR Rs.length cR (icells Rs)] W) :
  Calls Tryz.prog 39 #[.pointer (some ⟨b, 0, none⟩), .int .i64 lv, .int .i64 fr, .int .i64 pg, .int .i64 acc] W (StgR b 0 f l c on1 of1 tg1 tf tg pc pf pm pw pd pu X Ds pg acc (ft4 b fE fD fR) W (stageA (stgW l X of1 tg1 tf tg pf pm pw pu) pg acc (n + 1) lv fr of1 ⟨Es, Rs⟩)) := by
 exact calls_ex mixedT [⟨b, 0, 84, wkC f l c on1 of1 tg1 tf tg pc pf pm pw pd pu (.slice fE Es.length cE) (.slice fD Ds.length cD) (.slice fR Rs.length cR), .own⟩, ownFx KE.t 14 fE Es.length cE (rcells KE Es), ownFx KI.t 4 fD Ds.length cD (rcells KI Ds), ownFx 3 1 fR Rs.length cR (icells Rs)] (.r 1 [a1 4 0 4] (.lp (restAt Tryz.f39 0) (nthLoop Tryz.f39 0) (fun E => [(0, .pointer (some ⟨b, 0, none⟩)), (1, .int .i64 lv), (2, .int .i64 fr), (3, .int .i64 pg), (4, .int .i64 acc), (11, .pointer (some ⟨E.b 4, 0, none⟩)), (12, .int .i64 of1)]) [(0, (fun _ => ⟨b, 0, 84, wkC f l c on1 of1 tg1 tf tg pc pf pm pw pd pu (.slice fE Es.length cE) (.slice fD Ds.length cD) (.slice fR Rs.length cR), .own⟩)), (1, (fun _ => ownFx KE.t 14 fE Es.length cE (rcells KE Es))), (2, (fun _ => ownFx KI.t 4 fD Ds.length cD (rcells KI Ds))), (3, (fun _ => ownFx 3 1 fR Rs.length cR (icells Rs))), (4, (fun E => ⟨E.b 4, 0, 44, (fltC flt0), .own⟩))])) Tryz.func39 rfl hF (fun E a W hT hF Q hQr _ => stage_loop b (E.b 4) f l c on1 of1 tg1 tf tg pc pf pm pw pd pu X Ds pg acc hM t0 t1 p0 p1 hX hd ⟨n, fr, of1, Es, Rs, fE, fD, fR, cE, cD, cR⟩ ⟨hn, f1, o0, o1, hG, hle, hlr, by simp only; rw [hlv], by simp only; rw [hlv]; exact hT, hF⟩ hQr) rfl (fun _ => by kernel_rfl)
end Go.Proofs.YtmelepohdbojlaaGreat
