/- Two stages plainly; the reference's Mid: contract. Two stages plainly: Trans; rows of numbers that are appended. Contracts: Read, New, Frame of package mem; Read of the reference. Stage 5: what the program's calls are held against; the law's small calls; its argument, opened. Stage 7: what the program's calls are held against; the argument, opened; the law's small calls. -/
import Derived.Test.YtmelepohdbojlaaGreatWr
import Derived.Test.YtmelepohdbojlaaGreatBe
import Derived.Test.YtmelepohdbojlaaGreatRg
import Derived.Test.YtmelepohdbojlaaGreatEq
import Derived.Test.YtmelepohdbojlaaGreatSq
import Derived.Deep.CutBlock
set_option linter.all false
namespace Go.Proofs.YtmelepohdbojlaaGreat
section
open Go.ChangeShapes Go.WideShapes Go.ChangeAt Go.RowKit Go.Deep
def midD (l : Nat) (X : Nat → BitVec 64) (on : Bool) (tf mid acc : Int) : Hit × Flt × List Int :=
 if on = false then (if (l : Int) / 8 ≤ mid then (hit0, ⟨1, 2, 0, false, mid⟩, []) else (⟨mid, mid, both1, 0⟩, flt0, []))
 else if (walkD l X 2 tf mid).2.1.k = 0 then
  (if (flagA (walkD l X 2 tf mid).1.t acc 2 (walkD l X 2 tf mid).1.l mid).k = 0
   then (⟨(walkD l X 2 tf mid).1.f, mid, (walkD l X 2 tf mid).1.t, (walkD l X 2 tf mid).1.l⟩, flt0, (walkD l X 2 tf mid).2.2)
   else (hit0, flagA (walkD l X 2 tf mid).1.t acc 2 (walkD l X 2 tf mid).1.l mid, (walkD l X 2 tf mid).2.2))
 else (hit0, (walkD l X 2 tf mid).2.1, (walkD l X 2 tf mid).2.2)
theorem flag_cases (t : Atr) (acc st lv pg : Int) : flagA t acc st lv pg = flt0 ∨ ((flagA t acc st lv pg).k ≠ 0 ∧ (flagA t acc st lv pg).st = st ∧ (flagA t acc st lv pg).lv = lv ∧ (flagA t acc st lv pg).w = false ∧ (flagA t acc st lv pg).p = pg) := by
 unfold flagA
 split
 ·exact .inr ⟨by simp, rfl, rfl, rfl, rfl⟩
 ·split
  ·exact .inr ⟨by simp, rfl, rfl, rfl, rfl⟩
  ·exact .inl rfl
theorem walk_cases (l : Nat) (X : Nat → BitVec 64) (st fr pg : Int) (h0 : 0 ≤ fr) (hp : 0 ≤ pg) : (walkD l X st fr pg).2.2.length ≤ 4 ∧ (∀ x ∈ (walkD l X st fr pg).2.2, 0 ≤ x ∧ x < (l : Int) / 8) ∧
  (((walkD l X st fr pg).2.1 = flt0 ∧ (walkD l X st fr pg).1.l = ((walkD l X st fr pg).2.2.length : Int) - 1 ∧ 0 ≤ (walkD l X st fr pg).1.f ∧ (walkD l X st fr pg).1.f < (l : Int) / 8) ∨
   ((walkD l X st fr pg).2.1.k ≠ 0 ∧ (walkD l X st fr pg).1 = hit0 ∧ (walkD l X st fr pg).2.1.st = st ∧ (walkD l X st fr pg).2.1.p = pg ∧ ((walkD l X st fr pg).2.1.lv = ((walkD l X st fr pg).2.2.length : Int) ∨ (walkD l X st fr pg).2.1.lv = ((walkD l X st fr pg).2.2.length : Int) - 1))) :=
 walkS_read _ _ st pg (fun lv f => tbl_kind X st lv f pg) (fun lv f => (tbl_frame X st lv f pg).1) hp 4 0 fr [] (by decide) (by decide) h0 rfl (by simp)
theorem walk_end {ft : List Nat} {w0 W w' : World} {k : Nat} {pre : BL} {E : Env} {e : Ending} {q : Hit × Flt × List Int} (hk : Keep ft w0 W) (h : WalkEnd W q e w') :
  ∃ q', GPost ft w0 k (fun E => .tuple #[hitV q.1, fltV q.2.1, .slice (E.f k) q.2.2.length (E.b k)]) pre [] [fun E => OwnP 3 1 (E.f k) q.2.2.length (E.b k) (icells q.2.2)] E W e w' q' := by
 obtain ⟨f', c', he, ho, hb⟩ := h
 exact GPost.own1 hk hb ho (by rw [he, set_f, set_c])
theorem midR_any (f : Option Addr) (l c : Nat) (X : Nat → BitVec 64) (on : Bool) (tf tg mid acc : Int) (w : World) (hX : WordsAt w f l X) (hM : okM l = true) (t0 : 0 ≤ tf) (t1 : tf ≤ 4095) (m0 : 0 ≤ mid) (m1 : mid ≤ 4095) :
  Calls Tryz.prog 43 #[.agg #[.slice f l c], .agg #[.bool on, .int .i64 tf, .int .i64 tg], .int .i64 mid, .int .i64 acc] w (WalkEnd w (midD l X on tf mid acc)) := by
 cases on
 ·by_cases hs : (l : Int) / 8 ≤ mid
  ·have es : decide ((mid : Int) ≥ ((l : Int) / 8)) = true := decide_eq_true hs
   have hq : midD l X false tf mid acc = (hit0, ⟨1, 2, 0, false, mid⟩, []) := by unfold midD; rw [if_pos rfl, if_pos hs]
   exact calls_ex mixedT [] (.r 1 [a1 1 1 0] (.r 2 [a1 1 0 0, (2, .call 63 (fun _ => [.agg #[.slice f l c]]) (fun _ => .int .i64 ((l : Int) / 8))), (3, .rw (fun _ => .bool (decide ((mid : Int) ≥ ((l : Int) / 8)))) (fun _ => .bool true))] (.r 3 [aN 3 2 0 9, aN 4 3 0 5] (.fin [(2, 0, 9), (3, 0, 5)] (fun _ => .tuple #[hitV hit0, .agg #[.int .i64 1, .int .i64 2, .int .i64 0, .bool false, .int .i64 mid], .slice none 0 0]) [])))) Tryz.func43 rfl (Fits.nil w) (⟨fun _ W _ => rframesB f l c W (by have := okM_true hM; omega), fun _ => congrArg Value.bool es, fun _ _ hk _ => by rw [hq]; exact ⟨none, 0, rfl, World.ownsRow_nil _ _ _ _, hk.below⟩⟩) rfl (fun _ => by kernel_rfl)
  ·have es : decide ((mid : Int) ≥ ((l : Int) / 8)) = false := decide_eq_false hs
   have hq : midD l X false tf mid acc = (⟨mid, mid, both1, 0⟩, flt0, []) := by unfold midD; rw [if_pos rfl, if_neg hs]
   exact calls_ex mixedT [] (.r 1 [a1 1 1 0] (.r 2 [a1 1 0 0, (2, .call 63 (fun _ => [.agg #[.slice f l c]]) (fun _ => .int .i64 ((l : Int) / 8))), (3, .rw (fun _ => .bool (decide ((mid : Int) ≥ ((l : Int) / 8)))) (fun _ => .bool false))] (.r 4 [aN 5 2 0 9, aN 6 3 0 5] (.fin [(2, 0, 9), (3, 0, 5)] (fun _ => .tuple #[.agg #[.int .i64 mid, .int .i64 mid, .bool true, .bool true, .bool true, .bool true, .bool false, .int .i64 0, .int .i64 0], fltV flt0, .slice none 0 0]) [])))) Tryz.func43 rfl (Fits.nil w) (⟨fun _ W _ => rframesB f l c W (by have := okM_true hM; omega), fun _ => congrArg Value.bool es, fun _ _ hk _ => by rw [hq]; exact ⟨none, 0, rfl, World.ownsRow_nil _ _ _ _, hk.below⟩⟩) rfl (fun _ => by kernel_rfl)
 ·by_cases hk : (walkD l X 2 tf mid).2.1.k = 0
  ·have e0 : ((walkD l X 2 tf mid).2.1.k == 0) = true := by rw [hk]; rfl
   by_cases hf : (flagA (walkD l X 2 tf mid).1.t acc 2 (walkD l X 2 tf mid).1.l mid).k = 0
   ·have ef : ((flagA (walkD l X 2 tf mid).1.t acc 2 (walkD l X 2 tf mid).1.l mid).k != 0) = false := by rw [hf]; rfl
    have h0 : flt0 = (flagA (walkD l X 2 tf mid).1.t acc 2 (walkD l X 2 tf mid).1.l mid) := by
     rcases flag_cases (walkD l X 2 tf mid).1.t acc 2 (walkD l X 2 tf mid).1.l mid with h | h
     ·exact h.symm
     ·exact absurd hf h.1
    have hq : midD l X true tf mid acc = (⟨(walkD l X 2 tf mid).1.f, mid, (walkD l X 2 tf mid).1.t, (walkD l X 2 tf mid).1.l⟩, (flagA (walkD l X 2 tf mid).1.t acc 2 (walkD l X 2 tf mid).1.l mid), (walkD l X 2 tf mid).2.2) := by unfold midD; rw [if_neg (by decide), if_pos hk, if_pos hf, ← h0]
    exact calls_ex mixedT [] (.r 1 [a1 1 1 0] (.r 5 [a1 0 0 0, a1 2 1 1, (4, .callg 71 (fun _ => [.agg #[.slice f l c], .int .i64 2, .int .i64 tf, .int .i64 mid]) (fun E => .tuple #[hitV (walkD l X 2 tf mid).1, fltV (walkD l X 2 tf mid).2.1, .slice (E.f 4) (walkD l X 2 tf mid).2.2.length (E.b 4)]) [] [] 4 [fun E => OwnP 3 1 (E.f 4) (walkD l X 2 tf mid).2.2.length (E.b 4) (icells (walkD l X 2 tf mid).2.2)]), aN 11 5 0 9, aN 12 6 0 5] (.r 6 [a1 1 6 0, (2, .rw (fun _ => .bool ((walkD l X 2 tf mid).2.1.k == 0)) (fun _ => .bool true))] (.r 7 [aN 1 5 2 6, a1 4 5 8, (6, .call 46 (fun _ => [.agg #[.bool (walkD l X 2 tf mid).1.t.r, .bool (walkD l X 2 tf mid).1.t.w, .bool (walkD l X 2 tf mid).1.t.x, .bool (walkD l X 2 tf mid).1.t.a, .bool (walkD l X 2 tf mid).1.t.n, .int .i64 (walkD l X 2 tf mid).1.t.s], .int .i64 acc, .int .i64 2, .int .i64 (walkD l X 2 tf mid).1.l, .int .i64 mid]) (fun _ => fltV (flagA (walkD l X 2 tf mid).1.t acc 2 (walkD l X 2 tf mid).1.l mid))), aN 7 6 0 5] (.r 8 [a1 1 6 0, (2, .rw (fun _ => .bool ((flagA (walkD l X 2 tf mid).1.t acc 2 (walkD l X 2 tf mid).1.l mid).k != 0)) (fun _ => .bool false))] (.r 10 [a1 2 5 1] (.r 11 [aN 0 5 0 9, aN 1 6 0 5, aN 3 2 0 9, aN 4 3 0 5] (.fin [(2, 0, 9), (3, 0, 5)] (fun E => .tuple #[.agg #[.int .i64 (walkD l X 2 tf mid).1.f, .int .i64 mid, .bool (walkD l X 2 tf mid).1.t.r, .bool (walkD l X 2 tf mid).1.t.w, .bool (walkD l X 2 tf mid).1.t.x, .bool (walkD l X 2 tf mid).1.t.a, .bool (walkD l X 2 tf mid).1.t.n, .int .i64 (walkD l X 2 tf mid).1.t.s, .int .i64 (walkD l X 2 tf mid).1.l], fltV (flagA (walkD l X 2 tf mid).1.t acc 2 (walkD l X 2 tf mid).1.l mid), .slice (E.f 4) (walkD l X 2 tf mid).2.2.length (E.b 4)]) [(4, (fun E => ownFx 3 1 (E.f 4) (walkD l X 2 tf mid).2.2.length (E.b 4) (icells (walkD l X 2 tf mid).2.2)))])))))))) Tryz.func43 rfl (Fits.nil w) (⟨fun E W hk _ => (walkR_any f l c X 2 tf mid W (hX.keep0 hk) hM (Or.inr rfl) m0 m1 t0 t1).mono fun e w' h => walk_end hk h, fun _ => congrArg Value.bool e0, fun _ W _ => flagA_any _ acc 2 _ mid W, fun _ => congrArg Value.bool ef, fun E W hk hp => by rw [hq]; exact ⟨E.f 4, E.b 4, rfl, own_base (hp.1 _ (List.mem_singleton.2 rfl)), hk.below⟩⟩) rfl (fun _ => by kernel_rfl)
   ·have ef : ((flagA (walkD l X 2 tf mid).1.t acc 2 (walkD l X 2 tf mid).1.l mid).k != 0) = true := by simp [hf]
    have hq : midD l X true tf mid acc = (hit0, (flagA (walkD l X 2 tf mid).1.t acc 2 (walkD l X 2 tf mid).1.l mid), (walkD l X 2 tf mid).2.2) := by unfold midD; rw [if_neg (by decide), if_pos hk, if_neg hf]
    exact calls_ex mixedT [] (.r 1 [a1 1 1 0] (.r 5 [a1 0 0 0, a1 2 1 1, (4, .callg 71 (fun _ => [.agg #[.slice f l c], .int .i64 2, .int .i64 tf, .int .i64 mid]) (fun E => .tuple #[hitV (walkD l X 2 tf mid).1, fltV (walkD l X 2 tf mid).2.1, .slice (E.f 4) (walkD l X 2 tf mid).2.2.length (E.b 4)]) [] [] 4 [fun E => OwnP 3 1 (E.f 4) (walkD l X 2 tf mid).2.2.length (E.b 4) (icells (walkD l X 2 tf mid).2.2)]), aN 11 5 0 9, aN 12 6 0 5] (.r 6 [a1 1 6 0, (2, .rw (fun _ => .bool ((walkD l X 2 tf mid).2.1.k == 0)) (fun _ => .bool true))] (.r 7 [aN 1 5 2 6, a1 4 5 8, (6, .call 46 (fun _ => [.agg #[.bool (walkD l X 2 tf mid).1.t.r, .bool (walkD l X 2 tf mid).1.t.w, .bool (walkD l X 2 tf mid).1.t.x, .bool (walkD l X 2 tf mid).1.t.a, .bool (walkD l X 2 tf mid).1.t.n, .int .i64 (walkD l X 2 tf mid).1.t.s], .int .i64 acc, .int .i64 2, .int .i64 (walkD l X 2 tf mid).1.l, .int .i64 mid]) (fun _ => fltV (flagA (walkD l X 2 tf mid).1.t acc 2 (walkD l X 2 tf mid).1.l mid))), aN 7 6 0 5] (.r 8 [a1 1 6 0, (2, .rw (fun _ => .bool ((flagA (walkD l X 2 tf mid).1.t acc 2 (walkD l X 2 tf mid).1.l mid).k != 0)) (fun _ => .bool true))] (.r 9 [aN 1 6 0 5, aN 3 2 0 9, aN 4 3 0 5] (.fin [(2, 0, 9), (3, 0, 5)] (fun E => .tuple #[hitV hit0, fltV (flagA (walkD l X 2 tf mid).1.t acc 2 (walkD l X 2 tf mid).1.l mid), .slice (E.f 4) (walkD l X 2 tf mid).2.2.length (E.b 4)]) [(4, (fun E => ownFx 3 1 (E.f 4) (walkD l X 2 tf mid).2.2.length (E.b 4) (icells (walkD l X 2 tf mid).2.2)))]))))))) Tryz.func43 rfl (Fits.nil w) (⟨fun E W hk _ => (walkR_any f l c X 2 tf mid W (hX.keep0 hk) hM (Or.inr rfl) m0 m1 t0 t1).mono fun e w' h => walk_end hk h, fun _ => congrArg Value.bool e0, fun _ W _ => flagA_any _ acc 2 _ mid W, fun _ => congrArg Value.bool ef, fun E W hk hp => by rw [hq]; exact ⟨E.f 4, E.b 4, rfl, own_base (hp.1 _ (List.mem_singleton.2 rfl)), hk.below⟩⟩) rfl (fun _ => by kernel_rfl)
  ·have e0 : ((walkD l X 2 tf mid).2.1.k == 0) = false := by simp [hk]
   have n0 : ((walkD l X 2 tf mid).2.1.k != 0) = true := by simp [hk]
   have hq : midD l X true tf mid acc = (hit0, (walkD l X 2 tf mid).2.1, (walkD l X 2 tf mid).2.2) := by unfold midD; rw [if_neg (by decide), if_neg hk]
   exact calls_ex mixedT [] (.r 1 [a1 1 1 0] (.r 5 [a1 0 0 0, a1 2 1 1, (4, .callg 71 (fun _ => [.agg #[.slice f l c], .int .i64 2, .int .i64 tf, .int .i64 mid]) (fun E => .tuple #[hitV (walkD l X 2 tf mid).1, fltV (walkD l X 2 tf mid).2.1, .slice (E.f 4) (walkD l X 2 tf mid).2.2.length (E.b 4)]) [] [] 4 [fun E => OwnP 3 1 (E.f 4) (walkD l X 2 tf mid).2.2.length (E.b 4) (icells (walkD l X 2 tf mid).2.2)]), aN 11 5 0 9, aN 12 6 0 5] (.r 6 [a1 1 6 0, (2, .rw (fun _ => .bool ((walkD l X 2 tf mid).2.1.k == 0)) (fun _ => .bool false))] (.r 8 [a1 1 6 0, (2, .rw (fun _ => .bool ((walkD l X 2 tf mid).2.1.k != 0)) (fun _ => .bool true))] (.r 9 [aN 1 6 0 5, aN 3 2 0 9, aN 4 3 0 5] (.fin [(2, 0, 9), (3, 0, 5)] (fun E => .tuple #[hitV hit0, fltV (walkD l X 2 tf mid).2.1, .slice (E.f 4) (walkD l X 2 tf mid).2.2.length (E.b 4)]) [(4, (fun E => ownFx 3 1 (E.f 4) (walkD l X 2 tf mid).2.2.length (E.b 4) (icells (walkD l X 2 tf mid).2.2)))])))))) Tryz.func43 rfl (Fits.nil w) (⟨fun E W hk _ => (walkR_any f l c X 2 tf mid W (hX.keep0 hk) hM (Or.inr rfl) m0 m1 t0 t1).mono fun e w' h => walk_end hk h, fun _ => congrArg Value.bool e0, fun _ => congrArg Value.bool n0, fun E W hk hp => by rw [hq]; exact ⟨E.f 4, E.b 4, rfl, own_base (hp.1 _ (List.mem_singleton.2 rfl)), hk.below⟩⟩) rfl (fun _ => by kernel_rfl)
end
section
open Go.ChangeShapes Go.WideShapes Go.ChangeAt Go.RowKit Go.Deep
def transS (M : Int → Int → Hit × Flt × List Int) (T : Int → Int → Dsc) (pg acc : Int) : Nat → Int → Int → List Int → Hit × Flt × List Int
 | 0, _, _, R => (hit0, flt0, R)
 | n + 1, lv, mid, R =>
  if (M mid 0).2.1.k ≠ 0 then (hit0, ⟨(M mid 0).2.1.k, (M mid 0).2.1.st, (M mid 0).2.1.lv, true, (M mid 0).2.1.p⟩, R ++ (M mid 0).2.2)
  else if (T lv (M mid 0).1.f).k = 1 then transS M T pg acc n (lv + 1) (T lv (M mid 0).1.f).f (R ++ (M mid 0).2.2 ++ [(M mid 0).1.f])
  else if (T lv (M mid 0).1.f).k = 0 then (hit0, ⟨2, 1, lv, false, pg⟩, R ++ (M mid 0).2.2 ++ [(M mid 0).1.f])
  else if (flagA (T lv (M mid 0).1.f).at' acc 1 lv pg).k ≠ 0 then (hit0, flagA (T lv (M mid 0).1.f).at' acc 1 lv pg, R ++ (M mid 0).2.2 ++ [(M mid 0).1.f])
  else if (M ((T lv (M mid 0).1.f).f + pg % cov lv) acc).2.1.k ≠ 0 then (hit0, (M ((T lv (M mid 0).1.f).f + pg % cov lv) acc).2.1, R ++ (M mid 0).2.2 ++ [(M mid 0).1.f] ++ (M ((T lv (M mid 0).1.f).f + pg % cov lv) acc).2.2)
  else (⟨(M ((T lv (M mid 0).1.f).f + pg % cov lv) acc).1.f, (M ((T lv (M mid 0).1.f).f + pg % cov lv) acc).1.m, bothL [(T lv (M mid 0).1.f).at', (M ((T lv (M mid 0).1.f).f + pg % cov lv) acc).1.t], lv⟩,
   (M ((T lv (M mid 0).1.f).f + pg % cov lv) acc).2.1, R ++ (M mid 0).2.2 ++ [(M mid 0).1.f] ++ (M ((T lv (M mid 0).1.f).f + pg % cov lv) acc).2.2)
def transD (l : Nat) (X : Nat → BitVec 64) (on1 : Bool) (of1 : Int) (on2 : Bool) (tf pg acc : Int) : Hit × Flt × List Int :=
 if on1 = false then (if (midD l X on2 tf pg acc).2.1.k = 0 then (⟨(midD l X on2 tf pg acc).1.f, (midD l X on2 tf pg acc).1.m, bothL [(midD l X on2 tf pg acc).1.t], 3⟩, (midD l X on2 tf pg acc).2.1, (midD l X on2 tf pg acc).2.2) else midD l X on2 tf pg acc)
 else transS (fun m a => midD l X on2 tf m a) (fun lv f => tblD X 1 lv f pg) pg acc 4 0 of1 []
section
variable {M : Int → Int → Hit × Flt × List Int} {T : Int → Int → Dsc} {pg acc : Int} {n : Nat} {lv mid : Int} {R : List Int} {a b : Hit × Flt × List Int} {d : Dsc}
theorem transS_walk (ha : M mid 0 = a) (hk : a.2.1.k ≠ 0) : transS M T pg acc (n + 1) lv mid R = (hit0, ⟨a.2.1.k, a.2.1.st, a.2.1.lv, true, a.2.1.p⟩, R ++ a.2.2) := by
 subst ha; rw [transS, if_pos hk]
theorem transS_table (ha : M mid 0 = a) (hk : a.2.1.k = 0) (hd : T lv a.1.f = d) (h1 : d.k = 1) : transS M T pg acc (n + 1) lv mid R = transS M T pg acc n (lv + 1) d.f (R ++ a.2.2 ++ [a.1.f]) := by
 subst ha hd; rw [transS, if_neg (fun h => h hk), if_pos h1]
theorem transS_none (ha : M mid 0 = a) (hk : a.2.1.k = 0) (hd : T lv a.1.f = d) (h1 : d.k = 0) : transS M T pg acc (n + 1) lv mid R = (hit0, ⟨2, 1, lv, false, pg⟩, R ++ a.2.2 ++ [a.1.f]) := by
 subst ha hd; rw [transS, if_neg (fun h => h hk), if_neg (by omega), if_pos h1]
theorem transS_flag (ha : M mid 0 = a) (hk : a.2.1.k = 0) (hd : T lv a.1.f = d) (h1 : d.k = 2) (hg : (flagA d.at' acc 1 lv pg).k ≠ 0) : transS M T pg acc (n + 1) lv mid R = (hit0, flagA d.at' acc 1 lv pg, R ++ a.2.2 ++ [a.1.f]) := by
 subst ha hd; rw [transS, if_neg (fun h => h hk), if_neg (by omega), if_neg (by omega), if_pos hg]
theorem transS_far (ha : M mid 0 = a) (hk : a.2.1.k = 0) (hd : T lv a.1.f = d) (h1 : d.k = 2) (hg : (flagA d.at' acc 1 lv pg).k = 0) (hb : M (d.f + pg % cov lv) acc = b) (hbk : b.2.1.k ≠ 0) : transS M T pg acc (n + 1) lv mid R = (hit0, b.2.1, R ++ a.2.2 ++ [a.1.f] ++ b.2.2) := by
 subst ha hd hb; rw [transS, if_neg (fun h => h hk), if_neg (by omega), if_neg (by omega), if_neg (fun h => h hg), if_pos hbk]
theorem transS_hit (ha : M mid 0 = a) (hk : a.2.1.k = 0) (hd : T lv a.1.f = d) (h1 : d.k = 2) (hg : (flagA d.at' acc 1 lv pg).k = 0) (hb : M (d.f + pg % cov lv) acc = b) (hbk : b.2.1.k = 0) : transS M T pg acc (n + 1) lv mid R = (⟨b.1.f, b.1.m, bothL [d.at', b.1.t], lv⟩, b.2.1, R ++ a.2.2 ++ [a.1.f] ++ b.2.2) := by
 subst ha hd hb; rw [transS, if_neg (fun h => h hk), if_neg (by omega), if_neg (by omega), if_neg (fun h => h hg), if_neg (fun h => h hbk)]
end
theorem tbl_in (X : Nat → BitVec 64) (st lv fr pg : Int) (h : (tblD X st lv fr pg).k = 2) : (tblD X st lv fr pg).f + pg % cov lv ≤ 4095 := by
 have hk := of_cases st lv (X (fr * 8 + idxI lv pg).toNat)
 have hd : tblD X st lv fr pg = ofD st lv (X (fr * 8 + idxI lv pg).toNat) := rfl
 rw [hd] at h ⊢
 generalize ofD st lv (X (fr * 8 + idxI lv pg).toNat) = d at *
 rcases hk with hk | ⟨hk, _⟩
 ·rw [hk] at h; cases h
 ·unfold mayD at hk
  rw [if_neg (by omega), if_neg (by omega), if_pos h] at hk
  unfold leafD at hk
  simp only [Bool.and_eq_true, numB_iff, decide_eq_true_eq] at hk
  obtain ⟨_, _, ⟨f0, f1⟩, hm, _⟩ := hk
  rw [Int.tmod_eq_emod_of_nonneg f0] at hm
  have hc : cov lv = 512 ∨ cov lv = 64 ∨ cov lv = 8 ∨ cov lv = 1 := by
   unfold cov
   split <;> (try split) <;> (try split) <;> simp
  rcases hc with hc | hc | hc | hc <;> rw [hc] at hm ⊢ <;> omega
theorem mid_cases (l : Nat) (X : Nat → BitVec 64) (on : Bool) (tf mid acc : Int) (t0 : 0 ≤ tf) (m0 : 0 ≤ mid) : (midD l X on tf mid acc).2.2.length ≤ 4 ∧ (∀ x ∈ (midD l X on tf mid acc).2.2, 0 ≤ x ∧ x < (l : Int) / 8) ∧
  (((midD l X on tf mid acc).2.1 = flt0 ∧ 0 ≤ (midD l X on tf mid acc).1.f ∧ (midD l X on tf mid acc).1.f < (l : Int) / 8) ∨ ((midD l X on tf mid acc).2.1.k ≠ 0 ∧ (midD l X on tf mid acc).1 = hit0)) := by
 unfold midD
 cases on
 ·rw [if_pos rfl]
  by_cases h : (l : Int) / 8 ≤ mid
  ·rw [if_pos h]
   exact ⟨by simp, by simp, .inr ⟨by simp, rfl⟩⟩
  ·rw [if_neg h]
   exact ⟨by simp, by simp, .inl ⟨rfl, m0, by simp only; omega⟩⟩
 ·rw [if_neg (by decide)]
  have hw := walk_cases l X 2 tf mid t0 m0
  generalize walkD l X 2 tf mid = q at *
  obtain ⟨h1, h2, h3⟩ := hw
  rcases h3 with ⟨h3, _, h4, h5⟩ | ⟨h3, h4, _⟩
  ·rw [if_pos (by rw [h3]; rfl)]
   split
   ·exact ⟨h1, h2, .inl ⟨rfl, h4, h5⟩⟩
   ·rename_i hg
    exact ⟨h1, h2, .inr ⟨hg, rfl⟩⟩
  ·rw [if_neg h3]
   exact ⟨h1, h2, .inr ⟨h3, rfl⟩⟩
end
section
open Go.ChangeShapes Go.WideShapes Go.ChangeAt Go.RowKit Go.Deep
theorem mayE_zero {l : Nat} {a s : Int} (h : mayM l a s = 0) : okS s = true ∧ 0 ≤ a ∧ a < 8 * (l : Int) ∧ a % s = 0 := by
 unfold mayM at h
 split at h
 ·omega
 ·split at h
  ·omega
  ·split at h
   ·omega
   ·rename_i h1 h2 h3
    refine ⟨by simpa using h1, by omega, by omega, by simpa using h3⟩
def rdV (X : Nat → BitVec 64) (a s : Int) : BitVec 64 := X (a / 8).toNat >>> (a % 8 * 8).toNat &&& msk (8 * s)
theorem read_ok (f : Option Addr) (l c : Nat) (X : Nat → BitVec 64) (a s : Int) (w : World) (hX : WordsAt w f l X) (hM : okM l = true) (hE : mayM l a s = 0) :
  Calls Tryz.prog 154 #[.agg #[.slice f l c], .int .i64 a, .int .i64 s] w fun e w' => e = .returned (.tuple #[.int .u64 (u (rdV X a s)), .int .i64 0]) ∧ Below w.heap.size w w' := by
 obtain ⟨hs, a0, a1, a2⟩ := mayE_zero hE
 obtain ⟨l1, l2, l3⟩ := okM_true hM
 have hs1 := okS_true hs
 obtain ⟨W, hW⟩ : ∃ W, W = ((w.alloc (.cells #[.slice f l c] 24)).alloc (.cells #[.slice f l c] 155)).alloc (.cells #[.int .i64 a, .int .i64 s] 217) := ⟨_, rfl⟩
 have hb1 : Below w.heap.size w W := by rw [hW]; exact bel_alloc (bel_alloc (bel_alloc (Below.refl w.heap.size w) _) _) _
 have L1 : Loc W (w.heap.size + 1) 0 (.slice f l c) := by rw [hW]; exact (Loc.new _ _ _ _ 0 _ (by simp) rfl).alloc _
 have L2 : Loc W (w.heap.size + 1 + 1) 0 (.int .i64 a) := by rw [hW]; exact Loc.new _ _ _ _ 0 _ (by simp) rfl
 have L3 : Loc W (w.heap.size + 1 + 1) 1 (.int .i64 s) := by rw [hW]; exact Loc.new _ _ _ _ 1 _ (by simp) rfl
 have H := allows_any f l c a s W
 rw [if_pos hM, hE] at H
 have HH := Lib.hid H
 have HX := Lib.hid (hX.below hb1)
 clear H hX
 go_enter Tryz.func154, Tryz.ntmps154
 go_wp2_with fail
 rw [← hW]
 refine HH.out.mono ?_
 rintro e w1 ⟨rfl, hb⟩
 have c1 := (L1.below hb).cell
 have c2 := (L2.below hb).cell
 have c3 := (L3.below hb).cell
 obtain ⟨b, o, rfl, hc⟩ := HX.out (a / 8).toNat (by omega)
 have c4 := keepc hb hc
 simp only at c4
 have HB := Lib.hid (bel_trans hb1 hb)
 have i1 : 0 ≤ a / 8 := by omega
 have i2 : a / 8 < (l : Int) := by omega
 clear hW hb hb1 L1 L2 L3 hc HH HX
 go_wp2_with fail
 go_region_held3 (fun w' => w'.cell? ⟨w.heap.size + 1, 0, none⟩ = some (.slice (some ⟨b, o, none⟩) l c) ∧ w'.cell? ⟨w.heap.size + 1 + 1, 0, none⟩ = some (.int .i64 a) ∧ w'.cell? ⟨w.heap.size + 1 + 1, 1, none⟩ = some (.int .i64 s) ∧ w'.cell? ⟨b, o + (a / 8).toNat, none⟩ = some (.int .u64 (u (X (a / 8).toNat)))) (refine ⟨?_, ?_, ?_, ?_⟩ <;> (repeat (first | assumption | refine cell_keep ?_ _ | refine cell_drew ?_)))
  (first
   | (go_at_call 168; refine (pword_any _ _ _ a0 (by omega)).mono ?_; rintro e w' ⟨rfl, rfl⟩)
   | (go_at_call 169; refine (plow_any _ _ _ a0 (by omega)).mono ?_; rintro e w' ⟨rfl, rfl⟩)
   | (go_at_call 170; refine (pones_any _ _ _ (by omega) (by omega)).mono ?_; rintro e w' ⟨rfl, rfl⟩))
 go_wp2
 go_ret2
 exact ⟨rfl, Below.drew (bel_alloc (bel_alloc (bel_alloc HB.out _) _) _)⟩
theorem zeros_cells (n : Nat) : (madeCells #[.int .u64 0] n).toList = wcells (fun _ => 0#64) n := by
 rw [toList_madeCells_one]
 apply List.ext_getElem?
 intro j
 by_cases hj : j < n
 ·rw [wcells_get _ n j hj]; simp [hj]; decide
 ·rw [wcells_none _ n j (by omega)]; simp; omega
end
section
open Go.ChangeShapes Go.WideShapes Go.ChangeAt Go.RowKit Go.Deep
def tableA (l : Nat) (X : Nat → BitVec 64) (st lv fr pg : Int) : Dsc × Int :=
 if okM l && (placeB st lv && numB pg 4095) then (if numB fr ((l : Int) / 8 - 1) then (tblD X st lv fr pg, 0) else (dz, 2)) else (dz, 1)
def walkMay (l : Nat) (st fr pg : Int) : Bool := okM l && (decide (st = 1 ∨ st = 2) && (numB fr 4095 && numB pg 4095))
def walkA (l : Nat) (X : Nat → BitVec 64) (st fr pg : Int) : (Hit × Flt × List Int) × Int :=
 if walkMay l st fr pg then (walkD l X st fr pg, 0) else ((hit0, flt0, []), 1)
def TableC : Prop := ∀ (f : Option Addr) (l c : Nat) (X : Nat → BitVec 64) (st lv fr pg : Int) (w : World), l ≤ 1000000 → l ≤ c → WordsAt w f l X →
 Calls Tryz.prog 113 #[.agg #[.slice f l c], .int .i64 st, .int .i64 lv, .int .i64 fr, .int .i64 pg] w fun e w' => e = .returned (.tuple #[dscV (tableA l X st lv fr pg).1, .int .i64 (tableA l X st lv fr pg).2]) ∧ Below w.heap.size w w'
def Walk4End (w : World) (q : (Hit × Flt × List Int) × Int) (e : Ending) (w' : World) : Prop :=
 ∃ f' c', e = .returned (.tuple #[hitV q.1.1, fltV q.1.2.1, .slice f' q.1.2.2.length c', .int .i64 q.2]) ∧ OwnI w' w.heap.size (.slice f' q.1.2.2.length c') q.1.2.2 ∧ Below w.heap.size w w'
def WalkC : Prop := ∀ (f : Option Addr) (l c : Nat) (X : Nat → BitVec 64) (st fr pg : Int) (w : World), l ≤ 1000000 → l ≤ c → WordsAt w f l X →
 Calls Tryz.prog 160 #[.agg #[.slice f l c], .int .i64 st, .int .i64 fr, .int .i64 pg] w (Walk4End w (walkA l X st fr pg))
def heavy5 (l n : Nat) : Bool := decide (2000 < l) || decide (500 < n)
theorem heavy5_no {l n : Nat} (h : heavy5 l n = false) : l ≤ 2000 ∧ n ≤ 500 := by
 unfold heavy5 at h
 simp at h
 omega
theorem heavy5_any (f g : Option Addr) (l c n d : Nat) (fr : Int) (w : World) (hl : l ≤ 1000000000000000) (hn : n ≤ 1000000000000000) :
  Calls Tryz.prog 25 #[.agg #[.slice f l c, .int .i64 fr, .slice g n d]] w fun e w' => e = .returned (.bool (heavy5 l n)) ∧ Below w.heap.size w w' := by
 by_cases h : 2000 < l
 ·have hd : decide ((2000 : Int) < (l : Int)) = true := decide_eq_true (by omega)
  have he : heavy5 l n = true := by unfold heavy5; simp [h]
  have HE := Lib.hid he
  clear he
  go_enter Tryz.func25, Tryz.ntmps25
  go_wp2
  go_ret
  rw [HE.out]
  exact ⟨rfl, by go_grown⟩
 ·have hd : decide ((2000 : Int) < (l : Int)) = false := decide_eq_false (by omega)
  have he : heavy5 l n = decide ((500 : Int) < (n : Int)) := by unfold heavy5; simp [h]; omega
  have HE := Lib.hid he
  clear he
  go_enter Tryz.func25, Tryz.ntmps25
  go_wp2
  go_ret
  rw [HE.out]
  exact ⟨ret_bool (by simp), by go_grown⟩
theorem rmemB (f : Option Addr) (l c : Nat) (w : World) :
  Calls Tryz.prog 19 #[.agg #[.slice f l c]] w fun e w' => e = .returned (.bool (okM l)) ∧ Below w.heap.size w w' :=
 (rmem_any f l c w).mono fun _ _ h => ⟨h.1, by rw [h.2]; exact bel_alloc (Below.refl _ _) _⟩
structure Q5 where
 f : Option Addr
 l : Nat
 c : Nat
 X : Nat → BitVec 64
 fr : Int
 g : Option Addr
 n : Nat
 d : Nat
 P : Nat → Int
structure Ok5 (W : World) (q : Q5) : Prop where
 words : WordsAt W q.f q.l q.X
 nums : NumsAt W q.g q.n q.P
 l1 : q.l ≤ 1000000000000000
 n1 : q.n ≤ 1000000000000000
 lc : q.l ≤ q.c
 nd : q.n ≤ q.d
 fr1 : InI q.fr
theorem Ok5.below {W w : World} {q : Q5} (h : Ok5 W q) (hb : Below W.heap.size W w) : Ok5 w q := ⟨h.words.below hb, h.nums.below hb, h.l1, h.n1, h.lc, h.nd, h.fr1⟩
section
variable {H : Type} {enc : TypeId × Value → H} {w : World} {base : Nat} {held : Bool}
end
theorem make8 (w : World) (n : Nat) (h : n ≤ 100000) : ∃ W2, (Instr.makeSlice 22 (.int .i64 (n : Int)) (.int .i64 (n : Int))).run Tryz.prog w = .ok (.slice (some ⟨w.heap.size, 0, none⟩) n n) W2 ∧ WordsAt W2 (some ⟨w.heap.size, 0, none⟩) n (fun _ => 0#64) ∧ Below w.heap.size w W2 := by
 obtain ⟨i0, hi, hz0, hz1, hz2⟩ := info_parts infoW
 obtain ⟨W2, hrun, hown, hgr⟩ := run_make_full (P := Tryz.prog) w w.heap.size 22 130 i0 _ 1 Tryz.underlying22 hi hz0 hz1 .i64 .i64 n (by rw [hz2]; omega) (by unfold maxLen; omega) (Nat.le_refl _)
 have hO : OwnW W2 w.heap.size (.slice (some ⟨w.heap.size, 0, none⟩) n n) n (fun _ => 0#64) := by
  unfold OwnW
  rw [← zeros_cells]
  rw [Nat.mul_one] at hown
  exact hown
 exact ⟨W2, hrun, hO.words, (Below.refl w.heap.size w).grown hgr (Nat.le_refl _) (by simp)⟩
end
section
open Go.ChangeShapes Go.WideShapes Go.ChangeAt Go.RowKit Go.Deep
def mayN (l : Nat) (tf pg acc : Int) : Bool := okM l && (numB tf 4095 && (numB pg 4095 && numB acc 2))
def midA (l : Nat) (X : Nat → BitVec 64) (on : Bool) (tf pg acc : Int) : (Hit × Flt × List Int) × Int :=
 if mayN l tf pg acc = true then (midD l X on tf pg acc, 0) else ((hit0, flt0, []), 1)
def MidC : Prop := ∀ (f : Option Addr) (l c : Nat) (X : Nat → BitVec 64) (on : Bool) (tf tg mid acc : Int) (w : World), l ≤ 1000000 → l ≤ c → WordsAt w f l X →
 Calls Tryz.prog 105 #[.agg #[.slice f l c], .agg #[.bool on, .int .i64 tf, .int .i64 tg], .int .i64 mid, .int .i64 acc] w (Walk4End w (midA l X on tf mid acc))
theorem midA_no {l : Nat} {X : Nat → BitVec 64} {on : Bool} {tf pg acc : Int} (h : mayN l tf pg acc = false) : midA l X on tf pg acc = ((hit0, flt0, []), 1) := by unfold midA; rw [h]; rfl
theorem midA_yes {l : Nat} {X : Nat → BitVec 64} {on : Bool} {tf pg acc : Int} (h : mayN l tf pg acc = true) : midA l X on tf pg acc = (midD l X on tf pg acc, 0) := by unfold midA; rw [h]; rfl
theorem mayN_iff {l : Nat} {tf pg acc : Int} : mayN l tf pg acc = true ↔ okM l = true ∧ (0 ≤ tf ∧ tf ≤ 4095) ∧ (0 ≤ pg ∧ pg ≤ 4095) ∧ 0 ≤ acc ∧ acc ≤ 2 := by
 simp only [mayN, Bool.and_eq_true, numB_iff]
structure Q7 where
 a : Q5
 on1 : Bool
 of1 : Int
 og1 : Int
 on2 : Bool
 tf : Int
 tg : Int
 ac : Int
section
variable {H : Type} {enc : TypeId × Value → H} {w : World} {base : Nat} {held : Bool}
end
end
end Go.Proofs.YtmelepohdbojlaaGreat
