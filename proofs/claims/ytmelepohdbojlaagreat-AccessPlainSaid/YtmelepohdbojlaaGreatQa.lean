/- Stage 14: the reference's walker.mid: plainly, and its contract. -/
import Derived.Test.YtmelepohdbojlaaGreatBk
import Derived.Test.YtmelepohdbojlaaGreatBg
import Derived.Test.YtmelepohdbojlaaGreatNf
set_option linter.all false
namespace Go.Proofs.YtmelepohdbojlaaGreat
open Go.ChangeShapes Go.WideShapes Go.ChangeAt Go.RowKit Go.Deep
theorem row_part {xs : List Value} {V : Array Value} {a N : Nat} (h : ∀ i, i < N → xs[a + i]? = V[i]?) (o n : Nat) (hs : o + n ≤ N) (hN : N = V.size) : ∀ j u, ((V.toList.drop o).take n)[j]? = some u → xs[a + o + j]? = some u := fun j u hj => by
 rw [List.getElem?_take] at hj
 split at hj
 ·rw [List.getElem?_drop, Array.getElem?_toList] at hj
  rw [Nat.add_assoc, h (o + j) (by omega)]
  exact hj
 ·cases hj
theorem fill_end {ft : List Nat} {w0 W w' : World} {k : Nat} {pre : BL} {E : Env} {e : Ending} {Ef : List Ety} {Ds : List Inv} (hk : Keep ft w0 W) (h : EndT W Ef Ds e w') :
  ∃ q, GPost ft w0 k (fun E => .agg #[.slice (E.f k) Ef.length (E.b k), .slice (E.f (k + 1)) Ds.length (E.b (k + 1))]) pre [] [fun E => OwnP KE.t 14 (E.f k) Ef.length (E.b k) (rcells KE Ef), fun E => OwnP KI.t 4 (E.f (k + 1)) Ds.length (E.b (k + 1)) (rcells KI Ds)] E W e w' q := by
 obtain ⟨f', c', g', d', he, h1, h2, hb⟩ := h
 refine GPost.own2 hk hb (by decide) h1 h2 ?_
 have e1 : ((E.set k (c', f')).set (k + 1) (d', g')).e k = (c', f') := by rw [set_ne _ _ _ _ (by omega), set_at]
 have e2 : ((E.set k (c', f')).set (k + 1) (d', g')).f k = f' := by unfold Env.f; rw [e1]
 have e3 : ((E.set k (c', f')).set (k + 1) (d', g')).b k = c' := by unfold Env.b; rw [e1]
 rw [he, e2, e3, set_f, set_c]
theorem plain14_any (r v x a n : Bool) (s : Int) (w : World) : Calls Tryz.prog 66 #[.agg #[.bool r, .bool v, .bool x, .bool a, .bool n, .int .i64 s]] w fun e w' => e = .returned (.agg #[.bool r, .bool v, .bool x, .bool a, .bool n, .int .i64 0]) ∧ Below w.heap.size w w' := by
 exact calls_ex mixedT [] (.r 1 [a1 1 0 5] (.r 2 [aN 0 0 0 6, aN 1 1 0 6] (.fin [(1, 0, 6)] (fun _ => .agg #[.bool r, .bool v, .bool x, .bool a, .bool n, .int .i64 0]) []))) Tryz.func66 rfl (Fits.nil w) (fun _ _ h _ => ⟨rfl, h.below⟩) rfl (fun _ => by kernel_rfl)
def wkC (f : Option Addr) (l c : Nat) (on1 : Bool) (of1 tg1 tf tg pc : Int) (pf pm pw : Bool) (pd : Int) (pu : Bool) (sE sD sR : Value) : List Value := [.slice f l c, sE, sD, .bool on1, .int .i64 of1, .int .i64 tg1, .bool true, .int .i64 tf, .int .i64 tg, .int .i64 pc, .bool pf, .bool pm, .bool pw, .int .i64 pd, .bool pu, sR]
def MidEnd (ft : List Nat) (W : World) (b : Nat) (t : TypeId) (mk : Value → Value → Value → List Value) (v : Value) (Es : List Ety) (Ds : List Inv) (Rs : List Int) (e : Ending) (w' : World) : Prop :=
 ∃ fE cE fD cD fR cR, e = .returned v ∧ Fits ft W [⟨b, 0, t, mk (.slice fE Es.length cE) (.slice fD Ds.length cD) (.slice fR Rs.length cR), .own⟩, ownFx KE.t 14 fE Es.length cE (rcells KE Es), ownFx KI.t 4 fD Ds.length cD (rcells KI Ds), ownFx 3 1 fR Rs.length cR (icells Rs)] w'
abbrev ft4 (b : Nat) (fE fD fR : Option Addr) : List Nat := b :: ((fE.map (·.block)).toList ++ (fD.map (·.block)).toList ++ (fR.map (·.block)).toList)
structure WkS where
 E : List Ety
 R : List Int
def plainA (t : Atr) : Atr := ⟨t.r, t.w, t.x, t.a, t.n, 0⟩
def midW (l : Nat) (X : Nat → BitVec 64) (tf tg : Int) (mids use : Bool) (s : WkS) (mid acc : Int) : (Int × Atr × Flt) × WkS :=
 if use = true ∧ 0 ≤ mid9 s.E tg mid acc then (((s.E.getD (mid9 s.E tg mid acc).toNat ent0).fr, (s.E.getD (mid9 s.E tg mid acc).toNat ent0).t, flt0), s)
 else if (midD l X true tf mid acc).2.1.k ≠ 0 then ((0, atr0, (midD l X true tf mid acc).2.1), ⟨s.E, s.R ++ (midD l X true tf mid acc).2.2⟩)
 else (((midD l X true tf mid acc).1.f, plainA (midD l X true tf mid acc).1.t, (midD l X true tf mid acc).2.1),
  ⟨if mids = true then fill9 s.E ⟨2, tg, 0, true, mid, 0, (midD l X true tf mid acc).1.f, 0, plainA (midD l X true tf mid acc).1.t⟩ else s.E, s.R ++ (midD l X true tf mid acc).2.2⟩)
theorem midD_short (l : Nat) (X : Nat → BitVec 64) (tf mid acc : Int) (h0 : 0 ≤ tf) (hp : 0 ≤ mid) : (midD l X true tf mid acc).2.2.length ≤ 4 := by
 have h := (walk_cases l X 2 tf mid h0 hp).1
 unfold midD
 rw [if_neg (by decide)]
 split
 ·split
  ·exact h
  ·exact h
 ·exact h
theorem placeE_at {p : Ety → Bool} : ∀ (L : List Ety) (k : Int), 0 ≤ k → 0 ≤ placeE p L k → k ≤ placeE p L k ∧ placeE p L k < k + L.length
 | [], k, _, h => by
  simp [placeE] at h
 | x :: L, k, hk, h => by
  cases hp : p x with
  | true =>
   rw [placeE_yes hp]
   simp only [List.length_cons]
   omega
  | false =>
   rw [placeE_no hp] at h ⊢
   have := placeE_at L (k + 1) (by omega) h
   simp only [List.length_cons]
   omega
theorem fill9_end {w : World} {Es : List Ety} {Ds : List Inv} {fE fD : Option Addr} {cE cD : Nat} (e : Ety) (hE : OwnP KE.t 14 fE Es.length cE (rcells KE Es) w) (hD : OwnP KI.t 4 fD Ds.length cD (rcells KI Ds) w) (h1 : Es.length ≤ 90000) (h2 : Ds.length ≤ 90000) :
  Calls Tryz.prog 65 #[.agg #[.slice fE Es.length cE, .slice fD Ds.length cD], entV e] w (EndT w (fill9 Es e) Ds) :=
 (fill9_any fE fD Es.length cE Ds.length cD Es Ds e w (show OwnR KE w 0 (.slice fE Es.length cE) Es from hE).rows.2 rfl (show OwnR KI w 0 (.slice fD Ds.length cD) Ds from hD).rows.2 rfl h1 h2).mono fun r w' h => by
  obtain ⟨f', l', c', g', d', he, hl, g1, g2, hb⟩ := h
  subst hl
  exact ⟨f', c', g', d', he, g1, g2, hb⟩
theorem wmid_any (b : Nat) (f : Option Addr) (l c : Nat) (on1 : Bool) (of1 tg1 tf tg pc : Int) (pf pm pw : Bool) (pd : Int) (pu : Bool) (X : Nat → BitVec 64) (s : WkS) (Ds : List Inv) (mid acc : Int) (fE fD fR : Option Addr) (cE cD cR : Nat) (W : World)
  (hF : Fits (ft4 b fE fD fR) W [⟨b, 0, 84, wkC f l c on1 of1 tg1 tf tg pc pf pm pw pd pu (.slice fE s.E.length cE) (.slice fD Ds.length cD) (.slice fR s.R.length cR), .own⟩, ownFx KE.t 14 fE s.E.length cE (rcells KE s.E), ownFx KI.t 4 fD Ds.length cD (rcells KI Ds), ownFx 3 1 fR s.R.length cR (icells s.R)] W)
  (hM : okM l = true) (t0 : 0 ≤ tf) (t1 : tf ≤ 4095) (m0 : 0 ≤ mid) (m1 : mid ≤ 4095) (hX : ∀ w, Keep (ft4 b fE fD fR) W w → WordsAt w f l X) (h1 : s.E.length ≤ 90000) (h2 : Ds.length ≤ 90000) (h3 : s.R.length ≤ 90000) :
  Calls Tryz.prog 36 #[.pointer (some ⟨b, 0, none⟩), .int .i64 mid, .int .i64 acc] W (MidEnd (ft4 b fE fD fR) W b 84 (wkC f l c on1 of1 tg1 tf tg pc pf pm pw pd pu)
   (.tuple #[.int .i64 (midW l X tf tg pm pu s mid acc).1.1, .agg (atrC (midW l X tf tg pm pu s mid acc).1.2.1), fltV (midW l X tf tg pm pu s mid acc).1.2.2]) (midW l X tf tg pm pu s mid acc).2.E Ds (midW l X tf tg pm pu s mid acc).2.R) := by
 have HMI := fun w hk => midR_any f l c X true tf tg mid acc w (hX w hk) hM t0 t1 m0 m1
 have HM9 : ∀ w, OwnP KE.t 14 fE s.E.length cE (rcells KE s.E) w → Calls Tryz.prog 64 #[.agg #[.slice fE s.E.length cE, .slice fD Ds.length cD], .int .i64 tg, .int .i64 mid, .int .i64 acc] w fun r w' => r = .returned (.int .i64 (mid9 s.E tg mid acc)) ∧ Below w.heap.size w w' :=
  fun w h => mid9_any fE fD s.E.length cE Ds.length cD s.E tg mid acc w (show OwnR KE w 0 (.slice fE s.E.length cE) s.E from h).rows.2 rfl (by omega)
 have hlt : 0 ≤ mid9 s.E tg mid acc → mid9 s.E tg mid acc < s.E.length := fun h => by
  have := (placeE_at s.E 0 (by decide) h).2
  unfold mid9
  omega
 have hsh := midD_short l X tf mid acc t0 m0
 unfold midW
 generalize midD l X true tf mid acc = m at *
 generalize mid9 s.E tg mid acc = qM at *
 obtain ⟨hm, fm, Rm⟩ := m
 obtain ⟨Es, Rs⟩ := s
 simp only at *
 obtain ⟨qE, hqE⟩ : ∃ q, Es.getD qM.toNat ent0 = q := ⟨_, rfl⟩
 rw [hqE]
 generalize hz : (if pu = true ∧ 0 ≤ qM then _ else _ : (Int × Atr × Flt) × WkS) = z
 have hget : 0 ≤ qM → Es[qM.toNat]? = some qE := fun h => by
  have := hlt h
  have : qM.toNat < Es.length := by omega
  rw [← hqE]
  simp [this]
 exact calls_ex mixedT [⟨b, 0, 84, wkC f l c on1 of1 tg1 tf tg pc pf pm pw pd pu (.slice fE Es.length cE) (.slice fD Ds.length cD) (.slice fR Rs.length cR), .own⟩, ownFx KE.t 14 fE Es.length cE (rcells KE Es), ownFx KI.t 4 fD Ds.length cD (rcells KI Ds), ownFx 3 1 fR Rs.length cR (icells Rs)] (.r 1 [a1 4 0 14] (.split (pu) (.r 2 [aN 3 0 1 2, a1 8 0 8, (11, .callg 64 (fun _ => [.agg #[.slice fE Es.length cE, .slice fD Ds.length cD], .int .i64 tg, .int .i64 mid, .int .i64 acc]) (fun _ => .int .i64 qM) [(1, (fun _ => ownFx KE.t 14 fE Es.length cE (rcells KE Es)))] [] 6 [])] (.split (decide ((qM : Int) ≥ 0)) (.r 4 [a1 4 0 1, (6, .opc (.indexAddr 32 (.tmp 36) (.tmp 37)) (fun _ => [.slice fE Es.length cE, .int .i64 qM]) (fun _ => .pointer (some ⟨blkOf fE, (qM : Int).toNat * 14, none⟩)) [(1, (fun _ => ownFx KE.t 14 fE Es.length cE (rcells KE Es)))] [] 0 []), (8, .opc (.load 3 (.tmp 39)) (fun _ => [.pointer (some ⟨blkOf fE, (qM : Int).toNat * 14 + 6, none⟩)]) (fun _ => .int .i64 qE.fr) [(1, (fun _ => ownFx KE.t 14 fE Es.length cE (rcells KE Es)))] [] 0 []), a1 13 0 1, (15, .opc (.indexAddr 32 (.tmp 45) (.tmp 46)) (fun _ => [.slice fE Es.length cE, .int .i64 qM]) (fun _ => .pointer (some ⟨blkOf fE, (qM : Int).toNat * 14, none⟩)) [(1, (fun _ => ownFx KE.t 14 fE Es.length cE (rcells KE Es)))] [] 0 []), (17, .opc (.load 60 (.tmp 48)) (fun _ => [.pointer (some ⟨blkOf fE, (qM : Int).toNat * 14 + 8, none⟩)]) (fun _ => .agg #[.bool qE.t.r, .bool qE.t.w, .bool qE.t.x, .bool qE.t.a, .bool qE.t.n, .int .i64 qE.t.s]) [(1, (fun _ => ownFx KE.t 14 fE Es.length cE (rcells KE Es)))] [] 0 []), aN 20 4 0 6, aN 21 5 0 5] (.fin [(4, 0, 6), (5, 0, 5)] (fun _ => .tuple #[.int .i64 qE.fr, .agg #[.bool qE.t.r, .bool qE.t.w, .bool qE.t.x, .bool qE.t.a, .bool qE.t.n, .int .i64 qE.t.s], fltV flt0]) [(0, (fun _ => ⟨b, 0, 84, wkC f l c on1 of1 tg1 tf tg pc pf pm pw pd pu (.slice fE Es.length cE) (.slice fD Ds.length cD) (.slice fR Rs.length cR), .own⟩)), (1, (fun _ => ownFx KE.t 14 fE Es.length cE (rcells KE Es))), (2, (fun _ => ownFx KI.t 4 fD Ds.length cD (rcells KI Ds))), (3, (fun _ => ownFx 3 1 fR Rs.length cR (icells Rs)))])) (.r 5 [a1 3 0 0, aN 7 0 6 3, (10, .callg 43 (fun _ => [.agg #[.slice f l c], .agg #[.bool true, .int .i64 tf, .int .i64 tg], .int .i64 mid, .int .i64 acc]) (fun E => .tuple #[hitV hm, fltV fm, .slice (E.f 6) Rm.length (E.b 6)]) [] [] 6 [fun E => OwnP 3 1 (E.f 6) Rm.length (E.b 6) (icells Rm)]), aN 17 7 0 9, aN 18 8 0 5] (.r 6 [a1 4 0 15, (6, .opc (.call ⟨.builtin .append, #[(.tmp 70), (.tmp 71)], #[25, 25]⟩) (fun E => [.slice fR Rs.length cR, .slice (E.f 6) Rm.length (E.b 6)]) (fun E => .slice (E.f 9) (Rs ++ Rm).length (E.b 9)) [(3, (fun _ => ownFx 3 1 fR Rs.length cR (icells Rs))), (6, (fun E => ownFx 3 1 (E.f 6) Rm.length (E.b 6) (icells Rm)))] [(3, fun _ => noBx)] 9 [fun E => OwnP 3 1 (E.f 9) (Rs ++ Rm).length (E.b 9) (icells (Rs ++ Rm))]), a1 9 0 15] (.r 7 [a1 1 8 0] (.split (fm.k != 0) (.r 8 [aN 1 8 0 5, aN 3 4 0 6, aN 4 5 0 5] (.fin [(4, 0, 6), (5, 0, 5)] (fun _ => .tuple #[.int .i64 0, .agg #[.bool false, .bool false, .bool false, .bool false, .bool false, .int .i64 0], fltV fm]) [(0, (fun E => ⟨b, 0, 84, wkC f l c on1 of1 tg1 tf tg pc pf pm pw pd pu (.slice fE Es.length cE) (.slice fD Ds.length cD) (.slice (E.f 9) (Rs ++ Rm).length (E.b 9)), .own⟩)), (1, (fun _ => ownFx KE.t 14 fE Es.length cE (rcells KE Es))), (2, (fun _ => ownFx KI.t 4 fD Ds.length cD (rcells KI Ds))), (9, (fun E => ownFx 3 1 (E.f 9) (Rs ++ Rm).length (E.b 9) (icells (Rs ++ Rm))))])) (.r 9 [a1 4 0 11] (.split (pm) (.r 10 [aN 4 0 1 2, a1 9 0 8, a1 12 7 0, aN 14 7 2 6, (15, .call 66 (fun _ => [.agg #[.bool hm.t.r, .bool hm.t.w, .bool hm.t.x, .bool hm.t.a, .bool hm.t.n, .int .i64 hm.t.s]]) (fun _ => .agg #[.bool hm.t.r, .bool hm.t.w, .bool hm.t.x, .bool hm.t.a, .bool hm.t.n, .int .i64 0])), (17, .callg 65 (fun _ => [.agg #[.slice fE Es.length cE, .slice fD Ds.length cD], .agg #[.int .i64 2, .int .i64 tg, .int .i64 0, .bool true, .int .i64 mid, .int .i64 0, .int .i64 hm.f, .int .i64 0, .bool hm.t.r, .bool hm.t.w, .bool hm.t.x, .bool hm.t.a, .bool hm.t.n, .int .i64 0]]) (fun E => .agg #[.slice (E.f 10) (fill9 Es ⟨2, tg, 0, true, mid, 0, hm.f, 0, plainA hm.t⟩).length (E.b 10), .slice (E.f 11) Ds.length (E.b 11)]) [(1, (fun _ => ownFx KE.t 14 fE Es.length cE (rcells KE Es))), (2, (fun _ => ownFx KI.t 4 fD Ds.length cD (rcells KI Ds)))] [] 10 [fun E => OwnP KE.t 14 (E.f 10) (fill9 Es ⟨2, tg, 0, true, mid, 0, hm.f, 0, plainA hm.t⟩).length (E.b 10) (rcells KE (fill9 Es ⟨2, tg, 0, true, mid, 0, hm.f, 0, plainA hm.t⟩)), fun E => OwnP KI.t 4 (E.f 11) Ds.length (E.b 11) (rcells KI Ds)]), aN 20 0 1 2] (.r 11 [a1 1 7 0, aN 3 7 2 6, (4, .call 66 (fun _ => [.agg #[.bool hm.t.r, .bool hm.t.w, .bool hm.t.x, .bool hm.t.a, .bool hm.t.n, .int .i64 hm.t.s]]) (fun _ => .agg #[.bool hm.t.r, .bool hm.t.w, .bool hm.t.x, .bool hm.t.a, .bool hm.t.n, .int .i64 0])), aN 5 8 0 5, aN 7 4 0 6, aN 8 5 0 5] (.fin [(4, 0, 6), (5, 0, 5)] (fun _ => .tuple #[.int .i64 hm.f, .agg #[.bool hm.t.r, .bool hm.t.w, .bool hm.t.x, .bool hm.t.a, .bool hm.t.n, .int .i64 0], fltV fm]) [(0, (fun E => ⟨b, 0, 84, wkC f l c on1 of1 tg1 tf tg pc pf pm pw pd pu (.slice (E.f 10) (fill9 Es ⟨2, tg, 0, true, mid, 0, hm.f, 0, plainA hm.t⟩).length (E.b 10)) (.slice (E.f 11) Ds.length (E.b 11)) (.slice (E.f 9) (Rs ++ Rm).length (E.b 9)), .own⟩)), (10, (fun E => ownFx KE.t 14 (E.f 10) (fill9 Es ⟨2, tg, 0, true, mid, 0, hm.f, 0, plainA hm.t⟩).length (E.b 10) (rcells KE (fill9 Es ⟨2, tg, 0, true, mid, 0, hm.f, 0, plainA hm.t⟩)))), (11, (fun E => ownFx KI.t 4 (E.f 11) Ds.length (E.b 11) (rcells KI Ds))), (9, (fun E => ownFx 3 1 (E.f 9) (Rs ++ Rm).length (E.b 9) (icells (Rs ++ Rm))))]))) (.r 11 [a1 1 7 0, aN 3 7 2 6, (4, .call 66 (fun _ => [.agg #[.bool hm.t.r, .bool hm.t.w, .bool hm.t.x, .bool hm.t.a, .bool hm.t.n, .int .i64 hm.t.s]]) (fun _ => .agg #[.bool hm.t.r, .bool hm.t.w, .bool hm.t.x, .bool hm.t.a, .bool hm.t.n, .int .i64 0])), aN 5 8 0 5, aN 7 4 0 6, aN 8 5 0 5] (.fin [(4, 0, 6), (5, 0, 5)] (fun _ => .tuple #[.int .i64 hm.f, .agg #[.bool hm.t.r, .bool hm.t.w, .bool hm.t.x, .bool hm.t.a, .bool hm.t.n, .int .i64 0], fltV fm]) [(0, (fun E => ⟨b, 0, 84, wkC f l c on1 of1 tg1 tf tg pc pf pm pw pd pu (.slice fE Es.length cE) (.slice fD Ds.length cD) (.slice (E.f 9) (Rs ++ Rm).length (E.b 9)), .own⟩)), (1, (fun _ => ownFx KE.t 14 fE Es.length cE (rcells KE Es))), (2, (fun _ => ownFx KI.t 4 fD Ds.length cD (rcells KI Ds))), (9, (fun E => ownFx 3 1 (E.f 9) (Rs ++ Rm).length (E.b 9) (icells (Rs ++ Rm))))])))))))))) (.r 5 [a1 3 0 0, aN 7 0 6 3, (10, .callg 43 (fun _ => [.agg #[.slice f l c], .agg #[.bool true, .int .i64 tf, .int .i64 tg], .int .i64 mid, .int .i64 acc]) (fun E => .tuple #[hitV hm, fltV fm, .slice (E.f 6) Rm.length (E.b 6)]) [] [] 6 [fun E => OwnP 3 1 (E.f 6) Rm.length (E.b 6) (icells Rm)]), aN 17 7 0 9, aN 18 8 0 5] (.r 6 [a1 4 0 15, (6, .opc (.call ⟨.builtin .append, #[(.tmp 70), (.tmp 71)], #[25, 25]⟩) (fun E => [.slice fR Rs.length cR, .slice (E.f 6) Rm.length (E.b 6)]) (fun E => .slice (E.f 9) (Rs ++ Rm).length (E.b 9)) [(3, (fun _ => ownFx 3 1 fR Rs.length cR (icells Rs))), (6, (fun E => ownFx 3 1 (E.f 6) Rm.length (E.b 6) (icells Rm)))] [(3, fun _ => noBx)] 9 [fun E => OwnP 3 1 (E.f 9) (Rs ++ Rm).length (E.b 9) (icells (Rs ++ Rm))]), a1 9 0 15] (.r 7 [a1 1 8 0] (.split (fm.k != 0) (.r 8 [aN 1 8 0 5, aN 3 4 0 6, aN 4 5 0 5] (.fin [(4, 0, 6), (5, 0, 5)] (fun _ => .tuple #[.int .i64 0, .agg #[.bool false, .bool false, .bool false, .bool false, .bool false, .int .i64 0], fltV fm]) [(0, (fun E => ⟨b, 0, 84, wkC f l c on1 of1 tg1 tf tg pc pf pm pw pd pu (.slice fE Es.length cE) (.slice fD Ds.length cD) (.slice (E.f 9) (Rs ++ Rm).length (E.b 9)), .own⟩)), (1, (fun _ => ownFx KE.t 14 fE Es.length cE (rcells KE Es))), (2, (fun _ => ownFx KI.t 4 fD Ds.length cD (rcells KI Ds))), (9, (fun E => ownFx 3 1 (E.f 9) (Rs ++ Rm).length (E.b 9) (icells (Rs ++ Rm))))])) (.r 9 [a1 4 0 11] (.split (pm) (.r 10 [aN 4 0 1 2, a1 9 0 8, a1 12 7 0, aN 14 7 2 6, (15, .call 66 (fun _ => [.agg #[.bool hm.t.r, .bool hm.t.w, .bool hm.t.x, .bool hm.t.a, .bool hm.t.n, .int .i64 hm.t.s]]) (fun _ => .agg #[.bool hm.t.r, .bool hm.t.w, .bool hm.t.x, .bool hm.t.a, .bool hm.t.n, .int .i64 0])), (17, .callg 65 (fun _ => [.agg #[.slice fE Es.length cE, .slice fD Ds.length cD], .agg #[.int .i64 2, .int .i64 tg, .int .i64 0, .bool true, .int .i64 mid, .int .i64 0, .int .i64 hm.f, .int .i64 0, .bool hm.t.r, .bool hm.t.w, .bool hm.t.x, .bool hm.t.a, .bool hm.t.n, .int .i64 0]]) (fun E => .agg #[.slice (E.f 10) (fill9 Es ⟨2, tg, 0, true, mid, 0, hm.f, 0, plainA hm.t⟩).length (E.b 10), .slice (E.f 11) Ds.length (E.b 11)]) [(1, (fun _ => ownFx KE.t 14 fE Es.length cE (rcells KE Es))), (2, (fun _ => ownFx KI.t 4 fD Ds.length cD (rcells KI Ds)))] [] 10 [fun E => OwnP KE.t 14 (E.f 10) (fill9 Es ⟨2, tg, 0, true, mid, 0, hm.f, 0, plainA hm.t⟩).length (E.b 10) (rcells KE (fill9 Es ⟨2, tg, 0, true, mid, 0, hm.f, 0, plainA hm.t⟩)), fun E => OwnP KI.t 4 (E.f 11) Ds.length (E.b 11) (rcells KI Ds)]), aN 20 0 1 2] (.r 11 [a1 1 7 0, aN 3 7 2 6, (4, .call 66 (fun _ => [.agg #[.bool hm.t.r, .bool hm.t.w, .bool hm.t.x, .bool hm.t.a, .bool hm.t.n, .int .i64 hm.t.s]]) (fun _ => .agg #[.bool hm.t.r, .bool hm.t.w, .bool hm.t.x, .bool hm.t.a, .bool hm.t.n, .int .i64 0])), aN 5 8 0 5, aN 7 4 0 6, aN 8 5 0 5] (.fin [(4, 0, 6), (5, 0, 5)] (fun _ => .tuple #[.int .i64 hm.f, .agg #[.bool hm.t.r, .bool hm.t.w, .bool hm.t.x, .bool hm.t.a, .bool hm.t.n, .int .i64 0], fltV fm]) [(0, (fun E => ⟨b, 0, 84, wkC f l c on1 of1 tg1 tf tg pc pf pm pw pd pu (.slice (E.f 10) (fill9 Es ⟨2, tg, 0, true, mid, 0, hm.f, 0, plainA hm.t⟩).length (E.b 10)) (.slice (E.f 11) Ds.length (E.b 11)) (.slice (E.f 9) (Rs ++ Rm).length (E.b 9)), .own⟩)), (10, (fun E => ownFx KE.t 14 (E.f 10) (fill9 Es ⟨2, tg, 0, true, mid, 0, hm.f, 0, plainA hm.t⟩).length (E.b 10) (rcells KE (fill9 Es ⟨2, tg, 0, true, mid, 0, hm.f, 0, plainA hm.t⟩)))), (11, (fun E => ownFx KI.t 4 (E.f 11) Ds.length (E.b 11) (rcells KI Ds))), (9, (fun E => ownFx 3 1 (E.f 9) (Rs ++ Rm).length (E.b 9) (icells (Rs ++ Rm))))]))) (.r 11 [a1 1 7 0, aN 3 7 2 6, (4, .call 66 (fun _ => [.agg #[.bool hm.t.r, .bool hm.t.w, .bool hm.t.x, .bool hm.t.a, .bool hm.t.n, .int .i64 hm.t.s]]) (fun _ => .agg #[.bool hm.t.r, .bool hm.t.w, .bool hm.t.x, .bool hm.t.a, .bool hm.t.n, .int .i64 0])), aN 5 8 0 5, aN 7 4 0 6, aN 8 5 0 5] (.fin [(4, 0, 6), (5, 0, 5)] (fun _ => .tuple #[.int .i64 hm.f, .agg #[.bool hm.t.r, .bool hm.t.w, .bool hm.t.x, .bool hm.t.a, .bool hm.t.n, .int .i64 0], fltV fm]) [(0, (fun E => ⟨b, 0, 84, wkC f l c on1 of1 tg1 tf tg pc pf pm pw pd pu (.slice fE Es.length cE) (.slice fD Ds.length cD) (.slice (E.f 9) (Rs ++ Rm).length (E.b 9)), .own⟩)), (1, (fun _ => ownFx KE.t 14 fE Es.length cE (rcells KE Es))), (2, (fun _ => ownFx KI.t 4 fD Ds.length cD (rcells KI Ds))), (9, (fun E => ownFx 3 1 (E.f 9) (Rs ++ Rm).length (E.b 9) (icells (Rs ++ Rm))))])))))))))) Tryz.func36 rfl hF (⟨fun hS1 => ⟨fun E W hk hp => (HM9 W (hp.1 _ (List.mem_singleton.2 rfl)).2.2.1).mono fun e w' h => GPost.quiet hk h, fun hS2 => ⟨fun E W ρ o ho hx hk hp => ix_opc (N := 14) ho hx hk Tryz.underlying32 (by kernel_rfl) (hp.1 _ (List.mem_singleton.2 rfl)).2.2.1 (of_decide_eq_true hS2) (hlt (of_decide_eq_true hS2)) rfl, fun E W ρ o ho hx hk hp => ld_opc ho hx hk Tryz.underlying3 rfl (hp.1 _ (List.mem_singleton.2 rfl)).2.2.1 (by have := hlt (of_decide_eq_true hS2); have := of_decide_eq_true hS2; omega) ((rcells_get KE Es _ _ (hget (of_decide_eq_true hS2)) 6 (by decide)).trans rfl), fun E W ρ o ho hx hk hp => ix_opc (N := 14) ho hx hk Tryz.underlying32 (by kernel_rfl) (hp.1 _ (List.mem_singleton.2 rfl)).2.2.1 (of_decide_eq_true hS2) (hlt (of_decide_eq_true hS2)) rfl, fun E W ρ o ho hx hk hp => ldN_opc ho hx hk Tryz.underlying60 rfl (by kernel_rfl) (hp.1 _ (List.mem_singleton.2 rfl)).2.2.1 (by have := hlt (of_decide_eq_true hS2); have := of_decide_eq_true hS2; omega) (row_part (rcells_get KE Es _ _ (hget (of_decide_eq_true hS2))) 8 6 (by decide) rfl), fun E W hk hp => by simp only [ge_iff_le, decide_eq_true_eq, decide_eq_false_iff_not, bne_iff_ne, bne_eq_false_iff_eq, ne_eq] at hS1 hS2; simp only [ne_eq, hS1, hS2, and_true, and_false, true_and, false_and, not_true_eq_false, not_false_eq_true, if_true, if_false, Bool.false_eq_true] at hz; subst hz; exact ⟨fE, cE, fD, cD, fR, cR, rfl, hp.2 rfl⟩⟩, fun hS2 => ⟨fun E W hk _ => (HMI W hk).mono fun e w' h => walk_end hk h, fun E W ρ o ho hx hk hp => pushI_opc ho hx hk (hp.1 _ (List.mem_cons_self ..)) (hp.1 _ (List.mem_cons_of_mem _ (List.mem_singleton.2 rfl))).2.2.1 (by omega), fun hS3 => fun E W hk hp => by simp only [ge_iff_le, decide_eq_true_eq, decide_eq_false_iff_not, bne_iff_ne, bne_eq_false_iff_eq, ne_eq] at hS1 hS2 hS3; simp only [ne_eq, hS1, hS2, hS3, and_true, and_false, true_and, false_and, not_true_eq_false, not_false_eq_true, if_true, if_false, Bool.false_eq_true] at hz; subst hz; exact ⟨fE, cE, fD, cD, E.f 9, E.b 9, rfl, hp.2 rfl⟩, fun hS3 => ⟨fun hS4 => ⟨fun _ W _ => plain14_any _ _ _ _ _ _ W, fun E W hk hp => (fill9_end ⟨2, tg, 0, true, mid, 0, hm.f, 0, plainA hm.t⟩ (hp.1 _ (List.mem_cons_self ..)).2.2.1 (hp.1 _ (List.mem_cons_of_mem _ (List.mem_singleton.2 rfl))).2.2.1 h1 h2).mono fun e w' h => fill_end hk h, fun _ W _ => plain14_any _ _ _ _ _ _ W, fun E W hk hp => by simp only [ge_iff_le, decide_eq_true_eq, decide_eq_false_iff_not, bne_iff_ne, bne_eq_false_iff_eq, ne_eq] at hS1 hS2 hS3 hS4; simp only [ne_eq, hS1, hS2, hS3, hS4, and_true, and_false, true_and, false_and, not_true_eq_false, not_false_eq_true, if_true, if_false, Bool.false_eq_true] at hz; subst hz; exact ⟨E.f 10, E.b 10, E.f 11, E.b 11, E.f 9, E.b 9, rfl, hp.2 rfl⟩⟩, fun hS4 => ⟨fun _ W _ => plain14_any _ _ _ _ _ _ W, fun E W hk hp => by simp only [ge_iff_le, decide_eq_true_eq, decide_eq_false_iff_not, bne_iff_ne, bne_eq_false_iff_eq, ne_eq] at hS1 hS2 hS3 hS4; simp only [ne_eq, hS1, hS2, hS3, hS4, and_true, and_false, true_and, false_and, not_true_eq_false, not_false_eq_true, if_true, if_false, Bool.false_eq_true] at hz; subst hz; exact ⟨fE, cE, fD, cD, E.f 9, E.b 9, rfl, hp.2 rfl⟩⟩⟩⟩⟩, fun hS1 => ⟨fun E W hk _ => (HMI W hk).mono fun e w' h => walk_end hk h, fun E W ρ o ho hx hk hp => pushI_opc ho hx hk (hp.1 _ (List.mem_cons_self ..)) (hp.1 _ (List.mem_cons_of_mem _ (List.mem_singleton.2 rfl))).2.2.1 (by omega), fun hS5 => fun E W hk hp => by simp only [ge_iff_le, decide_eq_true_eq, decide_eq_false_iff_not, bne_iff_ne, bne_eq_false_iff_eq, ne_eq] at hS1 hS5; simp only [ne_eq, hS1, hS5, and_true, and_false, true_and, false_and, not_true_eq_false, not_false_eq_true, if_true, if_false, Bool.false_eq_true] at hz; subst hz; exact ⟨fE, cE, fD, cD, E.f 9, E.b 9, rfl, hp.2 rfl⟩, fun hS5 => ⟨fun hS6 => ⟨fun _ W _ => plain14_any _ _ _ _ _ _ W, fun E W hk hp => (fill9_end ⟨2, tg, 0, true, mid, 0, hm.f, 0, plainA hm.t⟩ (hp.1 _ (List.mem_cons_self ..)).2.2.1 (hp.1 _ (List.mem_cons_of_mem _ (List.mem_singleton.2 rfl))).2.2.1 h1 h2).mono fun e w' h => fill_end hk h, fun _ W _ => plain14_any _ _ _ _ _ _ W, fun E W hk hp => by simp only [ge_iff_le, decide_eq_true_eq, decide_eq_false_iff_not, bne_iff_ne, bne_eq_false_iff_eq, ne_eq] at hS1 hS5 hS6; simp only [ne_eq, hS1, hS5, hS6, and_true, and_false, true_and, false_and, not_true_eq_false, not_false_eq_true, if_true, if_false, Bool.false_eq_true] at hz; subst hz; exact ⟨E.f 10, E.b 10, E.f 11, E.b 11, E.f 9, E.b 9, rfl, hp.2 rfl⟩⟩, fun hS6 => ⟨fun _ W _ => plain14_any _ _ _ _ _ _ W, fun E W hk hp => by simp only [ge_iff_le, decide_eq_true_eq, decide_eq_false_iff_not, bne_iff_ne, bne_eq_false_iff_eq, ne_eq] at hS1 hS5 hS6; simp only [ne_eq, hS1, hS5, hS6, and_true, and_false, true_and, false_and, not_true_eq_false, not_false_eq_true, if_true, if_false, Bool.false_eq_true] at hz; subst hz; exact ⟨fE, cE, fD, cD, E.f 9, E.b 9, rfl, hp.2 rfl⟩⟩⟩⟩⟩) rfl (fun _ => by kernel_rfl)
theorem mid_post {t : TypeId} {ft0 : List Nat} {w0 W w' : World} {k : Nat} {E : Env} {e : Ending} {b iW iE iD iR : Nat} {cs : List Value} {fE fD fR : Option Addr} {nE cE nD cD : Nat} {xsE xsD : List Value} {xW xE xD xR xW' : Env → Bx} {gE gD gR : Env → World → Prop} {mk : Value → Value → Value → List Value} {v : Value} {Es : List Ety} {Ds : List Inv} {Rs : List Int} {rest : BL}
  (hk : Keep ft0 w0 W) (hp : ∀ p ∈ (iW, xW) :: (iE, xE) :: (iD, xD) :: (iR, xR) :: rest, (p.2 E).Holds ft0 w0 W)
  (h : MidEnd (b :: ((fE.map (·.block)).toList ++ (fD.map (·.block)).toList ++ (fR.map (·.block)).toList)) W b t mk v Es Ds Rs e w')
  (hd : iW ≠ iE ∧ iW ≠ iD ∧ iW ≠ iR := by decide) (hr : ∀ p ∈ rest, p.1 ≠ iW := by simp)
  (hW : xW E = ⟨b, 0, t, cs, .own⟩ := by rfl) (hE : xE E = ownFx KE.t 14 fE nE cE xsE := by rfl) (hD : xD E = ownFx KI.t 4 fD nD cD xsD := by rfl) (hR : (xR E).fp = fR.map (·.block) := by rfl)
  (hW' : ∀ q, xW' (envN [gE, gD, gR] E k q) = ⟨b, 0, t, mk (.slice (q k).2 Es.length (q k).1) (.slice (q (k + 1)).2 Ds.length (q (k + 1)).1) (.slice (q (k + 2)).2 Rs.length (q (k + 2)).1), .own⟩ := by exact fun _ => rfl)
  (hE' : ∀ q, gE (envN [gE, gD, gR] E k q) = OwnP KE.t 14 (q k).2 Es.length (q k).1 (rcells KE Es) := by exact fun _ => rfl) (hD' : ∀ q, gD (envN [gE, gD, gR] E k q) = OwnP KI.t 4 (q (k + 1)).2 Ds.length (q (k + 1)).1 (rcells KI Ds) := by exact fun _ => rfl)
  (hR' : ∀ q, gR (envN [gE, gD, gR] E k q) = OwnP 3 1 (q (k + 2)).2 Rs.length (q (k + 2)).1 (icells Rs) := by exact fun _ => rfl) :
  ∃ q, GPost ft0 w0 k (fun _ => v) ((iW, xW) :: (iE, xE) :: (iD, xD) :: (iR, xR) :: rest) [(iW, xW'), (iE, fun _ => noBx), (iD, fun _ => noBx), (iR, fun _ => noBx)] [gE, gD, gR] E W e w' q := by
 obtain ⟨aE, kE, aD, kD, aR, kR, he, hF⟩ := h
 have q0 : (fun i => if i = k then (kE, aE) else if i = k + 1 then (kD, aD) else (kR, aR) : Sup) k = (kE, aE) := if_pos rfl
 have q1 : (fun i => if i = k then (kE, aE) else if i = k + 1 then (kD, aD) else (kR, aR) : Sup) (k + 1) = (kD, aD) := (if_neg (by omega)).trans (if_pos rfl)
 have q2 : (fun i => if i = k then (kE, aE) else if i = k + 1 then (kD, aD) else (kR, aR) : Sup) (k + 2) = (kR, aR) := (if_neg (by omega)).trans (if_neg (by omega))
 generalize (fun i => if i = k then (kE, aE) else if i = k + 1 then (kD, aD) else (kR, aR) : Sup) = q at *
 have hW' := hW' q
 have hE' := hE' q
 have hD' := hD' q
 have hR' := hR' q
 rw [q0, q1, q2] at hW'
 rw [q0] at hE'
 rw [q1] at hD'
 rw [q2] at hR'
 refine GPost.fin (ft := b :: ((fE.map (·.block)).toList ++ (fD.map (·.block)).toList ++ (fR.map (·.block)).toList)) q hk hp (fun x hx => ?_) (fun p hpp p' hp' hi => ?_) he ?_
 ·simp only [List.mem_cons, List.mem_append, Option.mem_toList] at hx
  rcases hx with rfl | (hx | hx) | hx
  ·exact ⟨(iW, xW), by simp, (congrArg Bx.fp hW).trans rfl, by simp⟩
  ·exact ⟨(iE, xE), by simp, (congrArg Bx.fp hE).trans hx, by simp⟩
  ·exact ⟨(iD, xD), by simp, (congrArg Bx.fp hD).trans hx, by simp⟩
  ·exact ⟨(iR, xR), by simp, hR.trans hx, by simp⟩
 ·simp only [List.mem_cons, List.not_mem_nil, or_false] at hpp hp'
  rcases hp' with rfl | rfl | rfl | rfl
  ·rcases hpp with rfl | rfl | rfl | rfl | hpp
   ·exact Or.inr ((congrArg Bx.fp hW').trans (congrArg Bx.fp hW).symm)
   ·exact absurd hi hd.1
   ·exact absurd hi hd.2.1
   ·exact absurd hi hd.2.2
   ·exact absurd hi.symm (hr _ hpp)
  ·exact Or.inl rfl
  ·exact Or.inl rfl
  ·exact Or.inl rfl
 ·have hno : ∀ {ft : List Nat} {w1 w2 : World} {x y1 y2 y3 : Bx}, Fits ft w1 [x, y1, y2, y3] w2 → Fits ft w1 [x, noBx, noBx, noBx, y1, y2, y3] w2 := fun {ft w1 w2 x y1 y2 y3} H => by
   have key : ∀ (i : Nat) (z : Bx), [x, noBx, noBx, noBx, y1, y2, y3][i]? = some z → z = noBx ∨ ∃ i', [x, y1, y2, y3][i']? = some z ∧ i = (if i' = 0 then 0 else i' + 3) := fun i z hz => by
    match i with
    | 0 => exact Or.inr ⟨0, hz, rfl⟩
    | 1 => exact Or.inl (Option.some.inj hz).symm
    | 2 => exact Or.inl (Option.some.inj hz).symm
    | 3 => exact Or.inl (Option.some.inj hz).symm
    | 4 => exact Or.inr ⟨1, hz, rfl⟩
    | 5 => exact Or.inr ⟨2, hz, rfl⟩
    | 6 => exact Or.inr ⟨3, hz, rfl⟩
    | n + 7 => simp at hz
   refine ⟨H.keep, fun i z hz => ?_, fun i j z u hz hu hij c hc hcu => ?_⟩
   ·rcases key i z hz with rfl | ⟨i', h1, _⟩
    ·rfl
    ·exact H.all i' z h1
   ·rcases key i z hz with rfl | ⟨i', h1, e1⟩
    ·cases hc
    ·rcases key j u hu with rfl | ⟨j', h2, e2⟩
     ·cases hcu
     ·exact H.ne i' j' z u h1 h2 (fun e => hij (by rw [e1, e2, e])) c hc hcu
  have hG := hno hF
  show Fits _ W [xW' (envN [gE, gD, gR] E k q), noBx, noBx, noBx, factB q (envN [gE, gD, gR] E k q) k gE, factB q (envN [gE, gD, gR] E k q) (k + 1) gD, factB q (envN [gE, gD, gR] E k q) (k + 1 + 1) gR] w'
  unfold factB
  rw [hW', hE', hD', hR', q0, q1, show k + 1 + 1 = k + 2 from rfl, q2]
  exact hG
end Go.Proofs.YtmelepohdbojlaaGreat
