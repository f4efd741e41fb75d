/- Stage 14: the walk of AccessPlain. -/
import Derived.Test.YtmelepohdbojlaaGreatZj
import Derived.Test.YtmelepohdbojlaaGreatZg
import Derived.Test.YtmelepohdbojlaaGreatNz
set_option linter.all false
namespace Go.Proofs.YtmelepohdbojlaaGreat
open Go.ChangeShapes Go.WideShapes Go.ChangeAt Go.RowKit Go.Deep

def within14 (x : Int) : Int := x % 18446744073709551616 % 4096
theorem within14_in (x : Int) : 0 ≤ within14 x ∧ within14 x ≤ 4095 := by
  unfold within14
  omega
theorem within14_any (x : Int) (w : World) : Calls Tryz.prog 21 #[.int .i64 x, .int .i64 4096] w fun e w' => e = .returned (.int .i64 (within14 x)) ∧ Below w.heap.size w w' := by
  go_enter Tryz.func21, Tryz.ntmps21
  go_wp2
  go_ret
  refine ⟨ret_int ?_, Below.refl _ _⟩
  have e : (IntKind.u64.wrap x).tmod 4096 = within14 x := by
    rw [IntKind.wrap_u64]
    exact Int.tmod_eq_emod_of_nonneg (Int.emod_nonneg _ (by omega))
  have l := within14_in x
  rw [e]
  exact IntWalk.wrap64_in _ ⟨by omega, by omega⟩
theorem mid_goodE {a : AcW} {s : WkS} {mid acc : Int} (t0 : 0 ≤ a.tf) (m0 : 0 ≤ mid) (hG : GoodE a.l s.E) : GoodE a.l (a.mid s mid acc).2.E ∧ ((a.mid s mid acc).1.2.2.k = 0 → 0 ≤ (a.mid s mid acc).1.1 ∧ (a.mid s mid acc).1.1 * 8 + 8 ≤ a.l) := by
  have h := midW_good (l := a.l) (X := a.X) (tf := a.tf) (tg := a.tg) (pm := a.pm) (pu := a.pu) (s := s) (mid := mid) (acc := acc) t0 m0 hG (r := (a.mid s mid acc).1) (s' := (a.mid s mid acc).2) rfl
  exact ⟨h.1, h.2.2.2⟩
theorem stage_goodE {a : AcW} {pg acc : Int} (t0 : 0 ≤ a.tf) (p0 : 0 ≤ pg) : ∀ (n : Nat) (lv fr mid : Int) (s : WkS), 0 ≤ mid → GoodE a.l s.E → GoodE a.l (stageA a pg acc n lv fr mid s).2.E
  | 0, _, _, _, _, _, h => h
  | n + 1, lv, fr, mid, s, m0, h => by
    have ht : GoodE a.l (tabA a pg lv fr mid s).2.E := by
      unfold tabA
      have hm := mid_goodE (acc := 0) t0 m0 h
      generalize a.mid s mid 0 = q at *
      split
      · split
        · exact hm.1
        · rename_i hk
          have hk := hm.2 (Decidable.not_not.1 hk)
          simp only
          split
          · exact hm.1.fill hk.1 hk.2
          · exact hm.1
      · exact h
    unfold stageA
    generalize tabA a pg lv fr mid s = z at *
    split
    · exact ht
    · unfold dscA
      have hdf := tbl_frame a.X 1 lv z.1.1 pg
      have hc := mod_cov pg lv p0
      split
      · exact stage_goodE t0 p0 n _ _ _ _ hdf.1 ht
      · have hm := mid_goodE (a := a) (s := ⟨z.2.E, z.2.R ++ [z.1.1]⟩) (mid := (tblD a.X 1 lv z.1.1 pg).f + pg % cov lv) (acc := acc) t0 (by omega) ht
        generalize a.mid ⟨z.2.E, z.2.R ++ [z.1.1]⟩ ((tblD a.X 1 lv z.1.1 pg).f + pg % cov lv) acc = q at *
        split
        · exact ht
        · split
          · exact ht
          · split
            · exact hm.1
            · rename_i hk
              have hk := hm.2 (Decidable.not_not.1 hk)
              simp only
              split
              · exact hm.1.fill hk.1 hk.2
              · exact hm.1
theorem page_goodE {a : AcW} {on1 : Bool} {E : List Ety} {pg acc : Int} (t0 : 0 ≤ a.tf) (o0 : 0 ≤ a.of1) (p0 : 0 ≤ pg) (hG : GoodE a.l E) {z : AcR} (hz : pageA a on1 E pg acc (-1) = z) : GoodE a.l z.2.E := by
  subst hz
  unfold pageA
  rw [show dropA E (-1) = E from rfl]
  split
  · exact (mid_goodE t0 p0 hG).1
  · split
    · exact hG
    · split
      · exact stage_goodE t0 p0 _ _ _ _ _ o0 hG
      · exact stage_goodE t0 p0 _ _ _ _ _ o0 hG
def whoB (q : Q14) : Bool := rootB q.of1 q.tg1 && (rootB q.tf q.tg && q.on2)
theorem whoB_on {q : Q14} (h : whoB q = true) : q.on2 = true := by
  unfold whoB at h
  simp only [Bool.and_eq_true] at h
  exact h.2.2
theorem whoB_root {q : Q14} (h : whoB q = true) : 0 ≤ q.of1 ∧ q.of1 ≤ 4095 ∧ 0 ≤ q.tf ∧ q.tf ≤ 4095 := by
  unfold whoB rootB at h
  simp only [Bool.and_eq_true, numB_iff] at h
  omega
theorem ap_may {q : Q14} {pk : Pck} {pg ac : Int} {Es : List Ety} {Ds : List Inv} (hM : okM q.l = true) (hlc : q.l ≤ q.c) (hw : whoB q = true) (p0 : 0 ≤ pg) (p1 : pg ≤ 4095) (a0 : 0 ≤ ac) (a1 : ac ≤ 2) (hT : mayT Es Ds = true) (hG : GoodE q.l Es) : mayB14 (q.k pk pg ac) Es Ds = true := by
  unfold whoB rootB at hw
  simp only [Bool.and_eq_true, numB_iff] at hw
  unfold mayB14 mayC14
  simp only [Bool.and_eq_true, numB_iff, heldB_iff]
  refine ⟨⟨a0, a1⟩, ⟨hM, ⟨hT, hw.2.1.2, hw.1.2⟩, fun e he => ?_, hw.2.2, hw.2.1.1⟩, hw.1.1, p0, p1⟩
  have := hG e he
  omega
theorem arr_any {a a' : AcW} (e1 : a.l = a'.l) (e2 : a.X = a'.X) (e3 : a.tf = a'.tf) (e4 : a.of1 = a'.of1) {pg : Int} : ∀ (n : Nat) (mid : Int), ArrL a pg n mid → ArrL a' pg n mid
  | 0, mid, h => (show mid = a.of1 from h).trans e4
  | n + 1, mid, h => by
    obtain ⟨m0, h0, h1, h2, h3⟩ := h
    have hq : mq a m0 = mq a' m0 := by
      show midD a.l a.X true a.tf m0 0 = midD a'.l a'.X true a'.tf m0 0
      rw [e1, e2, e3]
    exact ⟨m0, arr_any e1 e2 e3 e4 n m0 h0, by rw [← hq]; exact h1, by rw [← hq, ← e2]; exact h2, by rw [← hq, ← e2]; exact h3⟩
theorem sound_eq {a a' : AcW} (e1 : a.l = a'.l) (e2 : a.X = a'.X) (e3 : a.tf = a'.tf) (e4 : a.of1 = a'.of1) {E : List Ety} (h : Sound a E) : Sound a' E := by
  intro e he
  obtain ⟨h1, h2, h3⟩ := h e he
  refine ⟨fun hk => ?_, fun hk => ?_, fun hk acc hm => ?_⟩
  · rw [← e1, ← e2, ← e3]
    exact h1 hk
  · obtain ⟨p, n, q0, q1, q2, q3, q4, mid, hA, hq, hf⟩ := h2 hk
    have hmq : mq a mid = mq a' mid := by
      show midD a.l a.X true a.tf mid 0 = midD a'.l a'.X true a'.tf mid 0
      rw [e1, e2, e3]
    exact ⟨p, n, q0, q1, q2, q3, q4, mid, arr_any e1 e2 e3 e4 n mid hA, by rw [← hmq]; exact hq, by rw [← hmq]; exact hf⟩
  · have := h3 hk acc hm
    simp only [trS] at this ⊢
    rw [← e1, ← e2, ← e3, ← e4]
    exact this
theorem sound_any {q : Q14} {pk pk' : Pck} {pg pg' ac ac' : Int} {E : List Ety} (h : Sound (q.k pk pg ac).a E) : Sound (q.k pk' pg' ac').a E := sound_eq (a := (q.k pk pg ac).a) (a' := (q.k pk' pg' ac').a) rfl rfl rfl rfl h
/-- Where the loops stand. -/
structure ApS where
  ac : Int
  Es : List Ety
  fE : Option Addr
  fD : Option Addr
  cE : Nat
  cD : Nat
def ApG (q : Q14) (Ds : List Inv) (Es : List Ety) : Prop := mayT Es Ds = true ∧ GoodE q.l Es ∧ Sound (q.k (⟨0, false, false, false, -1, false⟩ : Pck) 0 0).a Es
def ApI (q : Q14) (pk : Pck) (i pg : Int) (bp bt bk : Nat) (Ds : List Inv) (w0 : World) (x : ApS) (a : Act) (w : World) : Prop :=
  0 ≤ x.ac ∧ x.ac ≤ 3 ∧ ApG q Ds x.Es ∧ Has Tryz.f4.ntmps [(1, .pointer (some ⟨bp, 0, none⟩)), (3, .pointer (some ⟨bt, 0, none⟩)), (4, .int .i64 i), (5, .int .i64 pg), (6, .pointer (some ⟨bk, 0, none⟩)), (7, .int .i64 x.ac)] a ∧ Fits [] w0 [⟨bp, 0, 38, (q14C q), .own⟩, ⟨bt, 0, 35, [.slice x.fE x.Es.length x.cE, .slice x.fD Ds.length x.cD], .own⟩, ownFx KE.t 14 x.fE x.Es.length x.cE (rcells KE x.Es), ownFx KI.t 4 x.fD Ds.length x.cD (rcells KI Ds), ⟨bk, 0, 42, (pckC pk).toList, .own⟩] w
def ApO (q : Q14) (bp bt : Nat) (Ds : List Inv) (w0 : World) (x : ApS) (a : Act) (w : World) : Prop :=
  0 ≤ x.ac ∧ x.ac ≤ 8 ∧ ApG q Ds x.Es ∧ Has Tryz.f4.ntmps [(1, .pointer (some ⟨bp, 0, none⟩)), (3, .pointer (some ⟨bt, 0, none⟩)), (4, .int .i64 x.ac)] a ∧ Fits [] w0 [⟨bp, 0, 38, (q14C q), .own⟩, ⟨bt, 0, 35, [.slice x.fE x.Es.length x.cE, .slice x.fD Ds.length x.cD], .own⟩, ownFx KE.t 14 x.fE x.Es.length x.cE (rcells KE x.Es), ownFx KI.t 4 x.fD Ds.length x.cD (rcells KI Ds)] w
set_option maxRecDepth 100000 in
theorem ap_in (q : Q14) (pk : Pck) (i pg : Int) (bp bt bk : Nat) (Ds : List Inv) {w0 W : World} {a : Act} {Q : Exit → Act → World → Prop} (hX : WordsAt w0 q.f q.l q.X) (hlc : q.l ≤ q.c) (hd : pk.d = -1) (hM : okM q.l = true) (hw : whoB q = true) (p0 : 0 ≤ pg) (p1 : pg ≤ 4095) (hi : 0 ≤ i ∧ i ≤ 1000000) (x0 : ApS) (hI : ApI q pk i pg bp bt bk Ds w0 x0 a W)
    (hQr : ∀ a w, bodyPost Tryz.prog Tryz.f4 (fun e w' => e = .returned (.bool true) ∧ Below w0.heap.size w0 w') .ret a w → Q .ret a w) (hQn : ∀ a w (x : ApS), ApG q Ds x.Es → Has Tryz.f4.ntmps [(1, .pointer (some ⟨bp, 0, none⟩)), (3, .pointer (some ⟨bt, 0, none⟩)), (4, .int .i64 (i + 1))] a → Fits [] w0 [⟨bp, 0, 38, (q14C q), .own⟩, ⟨bt, 0, 35, [.slice x.fE x.Es.length x.cE, .slice x.fD Ds.length x.cD], .own⟩, ownFx KE.t 14 x.fE x.Es.length x.cE (rcells KE x.Es), ownFx KI.t 4 x.fD Ds.length x.cD (rcells KI Ds)] w → Q .normal a w) :
    wpI Tryz.prog Q (.code (nthLoop Tryz.f4 1) :: restAt Tryz.f4 1) .normal a W := by
  have hw2 : IntKind.i64.wrap (i + 1) = i + 1 := IntWalk.i64_in _ (by omega)
  have hr := whoB_root hw
  rw [show nthLoop Tryz.f4 1 = .loop (bodyOf (nthLoop Tryz.f4 1)) from by kernel_rfl]
  refine wp_lp (fun x a w => ApI q pk i pg bp bt bk Ds w0 x a w) (fun x => (3 - x.ac).toNat) x0 hI fun x a w hI => ?_
  obtain ⟨ac, Es, fE, fD, cE, cD⟩ := x
  obtain ⟨u0, u1, hg, hT, hF⟩ := hI
  simp only at u0 u1 hg hT hF
  have hw1 : IntKind.i64.wrap (ac + 1) = ac + 1 := IntWalk.i64_in _ (by omega)
  have hle := mayT_len' hg.1
  by_cases h3 : ac ≤ 2
  · have hd3 : decide ((ac : Int) ≤ 2) = true := decide_eq_true h3
    obtain ⟨⟨th, tq, tR⟩, ht⟩ : ∃ z, transD q.l q.X q.on1 q.of1 q.on2 q.tf pg ac = z := ⟨_, rfl⟩
    have hm0 : mayB14 (q.k (⟨0, false, false, false, -1, false⟩ : Pck) pg ac) [] [] = true := ap_may hM hlc hw p0 p1 u0 h3 (by decide) (fun _ h => nomatch h)
    have hm : mayB14 (q.k pk pg ac) Es Ds = true := ap_may hM hlc hw p0 p1 u0 h3 hg.1 hg.2.1
    obtain ⟨⟨⟨un, uf⟩, ⟨uE, uR⟩⟩, hz0⟩ : ∃ z, pageA (q.k (⟨0, false, false, false, -1, false⟩ : Pck) pg ac).a q.on1 [] pg ac (-1) = z := ⟨_, rfl⟩
    obtain ⟨⟨⟨zn, zf⟩, ⟨zE, zR⟩⟩, hz⟩ : ∃ z, pageA (q.k pk pg ac).a q.on1 Es pg ac pk.d = z := ⟨_, rfl⟩
    have hn := page_len hm hlc hz
    have hnE : zE.length ≤ 8 := hn.1
    have hnR : zR.length ≤ 1000 := hn.2
    have hn0 := page_len hm0 hlc hz0
    have s0 := page_sound (E := []) hr.2.2.1 hr.1 p0 (fun _ h => nomatch h) (fun _ h => nomatch h) hz0
    have hz1 := hz
    rw [hd] at hz1
    have s1 := page_sound hr.2.2.1 hr.1 p0 (sound_any hg.2.2) hg.2.1 hz1
    have hmz := page_may hm hlc
    rw [hz] at hmz
    have hgz : ApG q Ds zE := ⟨hmz, page_goodE hr.2.2.1 hr.1 p0 hg.2.1 hz1, sound_any s1.2.2.1⟩
    rw [← whoB_on hw] at s0 s1
    obtain ⟨rfl, rfl⟩ : th.f = un ∧ tq = uf := ⟨(s0.1.trans (congrArg (fun z => z.1.f) ht)).symm, (s0.2.1.trans (congrArg (fun z => z.2.1) ht)).symm⟩
    obtain rfl : tR = uR := ((s0.2.2.2 rfl).trans (congrArg (fun z => z.2.2) ht)).symm
    obtain ⟨rfl, rfl⟩ : th.f = zn ∧ tq = zf := ⟨(s1.1.trans (congrArg (fun z => z.1.f) ht)).symm, (s1.2.1.trans (congrArg (fun z => z.2.1) ht)).symm⟩
    have hnt : tR.length ≤ 1000 := hn0.2
    exact wp_ex mixedT Tryz.f4 [(1, .pointer (some ⟨bp, 0, none⟩)), (3, .pointer (some ⟨bt, 0, none⟩)), (4, .int .i64 i), (5, .int .i64 pg), (6, .pointer (some ⟨bk, 0, none⟩)), (7, .int .i64 ac)] [⟨bp, 0, 38, (q14C q), .own⟩, ⟨bt, 0, 35, [.slice fE Es.length cE, .slice fD Ds.length cD], .own⟩, ownFx KE.t 14 fE Es.length cE (rcells KE Es), ownFx KI.t 4 fD Ds.length cD (rcells KI Ds), ⟨bk, 0, 42, (pckC pk).toList, .own⟩] (.r 11 [(1, .rw (fun _ => .bool (decide ((ac : Int) ≤ 2))) (fun _ => .bool true))] (.r 13 [a1 3 0 0, aN 6 0 3 3, aN 9 0 6 3, (12, .callg 22 (fun _ => [.agg #[.slice q.f q.l q.c], .agg #[.bool q.on1, .int .i64 q.of1, .int .i64 q.tg1], .agg #[.bool q.on2, .int .i64 q.tf, .int .i64 q.tg], .int .i64 pg, .int .i64 ac]) (fun E => .tuple #[hitV th, fltV tq, .slice (E.f 5) tR.length (E.b 5)]) [] [] 5 [fun E => OwnP 3 1 (E.f 5) tR.length (E.b 5) (icells tR)]), aN 19 6 0 9, aN 20 7 0 5] (.r 14 [a1 3 0 0, aN 7 0 3 3, aN 10 0 6 3, (14, .callg 11 (fun _ => [.agg #[.slice q.f q.l q.c], .agg #[.slice none 0 0, .slice none 0 0], .agg #[.bool q.on1, .int .i64 q.of1, .int .i64 q.tg1], .agg #[.bool q.on2, .int .i64 q.tf, .int .i64 q.tg], .int .i64 pg, .int .i64 ac, .agg #[.int .i64 0, .bool false, .bool false, .bool false, .int .i64 (-1), .bool false]]) (fun E => .tuple #[.int .i64 th.f, fltV tq, .agg #[.slice (E.f 8) uE.length (E.b 8), .slice (E.f 9) ([] : List Inv).length (E.b 9)], .slice (E.f 10) tR.length (E.b 10), .int .i64 0]) [] [] 8 [fun E => OwnP KE.t 14 (E.f 8) uE.length (E.b 8) (rcells KE uE), fun E => OwnP KI.t 4 (E.f 9) ([] : List Inv).length (E.b 9) (rcells KI ([] : List Inv)), fun E => OwnP 3 1 (E.f 10) tR.length (E.b 10) (icells tR)]), aN 24 11 0 5, aN 25 12 0 2] (.r 15 [(1, .call 13 (fun _ => [.int .i64 0]) (fun _ => .int .i64 0)), aN 4 11 0 5, aN 5 7 0 5, (6, .opc (.binOp .neq 44 (.tmp 118) (.tmp 119) 44) (fun _ => [fltV tq, fltV tq]) (fun _ => .bool false) [] [] 0 []), (11, .callg 16 (fun E => [.slice (E.f 10) tR.length (E.b 10), .slice (E.f 5) tR.length (E.b 5)]) (fun _ => .bool true) [(10, (fun E => ownFx 3 1 (E.f 10) tR.length (E.b 10) (icells tR))), (5, (fun E => ownFx 3 1 (E.f 5) tR.length (E.b 5) (icells tR)))] [] 13 []), a1 17 6 0, (18, .rw (fun _ => .bool (th.f != th.f)) (fun _ => .bool false))] (.r 17 [a1 3 0 0, aN 4 1 0 2, aN 7 0 3 3, aN 10 0 6 3, aN 13 4 0 6, (14, .callg 11 (fun _ => [.agg #[.slice q.f q.l q.c], .agg #[.slice fE Es.length cE, .slice fD Ds.length cD], .agg #[.bool q.on1, .int .i64 q.of1, .int .i64 q.tg1], .agg #[.bool q.on2, .int .i64 q.tf, .int .i64 q.tg], .int .i64 pg, .int .i64 ac, .agg #[.int .i64 pk.c, .bool pk.f, .bool pk.m, .bool pk.w, .int .i64 pk.d, .bool pk.u]]) (fun E => .tuple #[.int .i64 th.f, fltV tq, .agg #[.slice (E.f 13) zE.length (E.b 13), .slice (E.f 14) Ds.length (E.b 14)], .slice (E.f 15) zR.length (E.b 15), .int .i64 0]) [(2, (fun _ => ownFx KE.t 14 fE Es.length cE (rcells KE Es))), (3, (fun _ => ownFx KI.t 4 fD Ds.length cD (rcells KI Ds)))] [] 13 [fun E => OwnP KE.t 14 (E.f 13) zE.length (E.b 13) (rcells KE zE), fun E => OwnP KI.t 4 (E.f 14) Ds.length (E.b 14) (rcells KI Ds), fun E => OwnP 3 1 (E.f 15) zR.length (E.b 15) (icells zR)]), aN 23 11 0 5, aN 24 16 0 2] (.r 18 [(1, .call 13 (fun _ => [.int .i64 0]) (fun _ => .int .i64 0)), aN 4 11 0 5, aN 5 7 0 5, (6, .opc (.binOp .neq 44 (.tmp 159) (.tmp 160) 44) (fun _ => [fltV tq, fltV tq]) (fun _ => .bool false) [] [] 0 []), a1 11 6 0, (12, .rw (fun _ => .bool (th.f != th.f)) (fun _ => .bool false)), aN 15 16 0 2, (16, .callg 23 (fun E => [.agg #[.slice (E.f 13) zE.length (E.b 13), .slice (E.f 14) Ds.length (E.b 14)]]) (fun _ => .bool true) [(13, (fun E => ownFx KE.t 14 (E.f 13) zE.length (E.b 13) (rcells KE zE))), (14, (fun E => ownFx KI.t 4 (E.f 14) Ds.length (E.b 14) (rcells KI Ds)))] [] 17 [])] (.r 20 [aN 0 16 0 2, aN 1 1 0 2] (.r 12 [(1, .rw (fun _ => .int .i64 (IntKind.i64.wrap (ac + 1))) (fun _ => .int .i64 (ac + 1)))] (.out none (fun _ => [(1, .pointer (some ⟨bp, 0, none⟩)), (3, .pointer (some ⟨bt, 0, none⟩)), (4, .int .i64 i), (5, .int .i64 pg), (6, .pointer (some ⟨bk, 0, none⟩)), (7, .int .i64 (ac + 1))]) [(0, (fun _ => ⟨bp, 0, 38, (q14C q), .own⟩)), (1, (fun E => ⟨bt, 0, 35, [.slice (E.f 13) zE.length (E.b 13), .slice (E.f 14) Ds.length (E.b 14)], .own⟩)), (13, (fun E => ownFx KE.t 14 (E.f 13) zE.length (E.b 13) (rcells KE zE))), (14, (fun E => ownFx KI.t 4 (E.f 14) Ds.length (E.b 14) (rcells KI Ds))), (4, (fun _ => ⟨bk, 0, 42, (pckC pk).toList, .own⟩))]))))))))) hT hF (⟨fun _ => congrArg Value.bool hd3, fun E W hk _ => (transR_any q.f q.l q.c q.X q.on1 q.of1 q.tg1 q.on2 q.tf q.tg pg ac W (hX.keep0 hk) hM hr.1 hr.2.1 hr.2.2.1 hr.2.2.2 p0 p1).mono fun e w' h => by rw [ht] at h; exact walk_end hk h, fun E W hk hp => (apage_yes (q.k (⟨0, false, false, false, -1, false⟩ : Pck) pg ac) none none 0 0 [] [] W (RowsAt.nil _ _) (RowsAt.nil _ _) (by decide) (by decide) (by decide) (by decide) (fun _ => rfl) (fun _ => rfl) (hX.keep0 hk) hlc hm0 hz0).mono fun e w' h => page_post hk hp.1 h, fun _ W _ => lnum14_any _ W, fun _ W _ _ ho hx hk _ => opc_self ho hx hk (by kernel_rfl) (flt_nes tq W), fun E W hk hp => (eqI14_any _ _ _ _ tR W (by omega) (hp.1 _ (List.mem_cons_self ..)).2.2.1 (hp.1 _ (List.mem_cons_of_mem _ (List.mem_singleton.2 rfl))).2.2.1).mono fun e w' h => GPost.quiet hk h, fun _ => by simp, fun E W hk hp => (apage_yes (q.k pk pg ac) fE fD cE cD Es Ds W (own_rows (hp.1 _ (List.mem_cons_self ..))) (own_rows (hp.1 _ (List.mem_cons_of_mem _ (List.mem_singleton.2 rfl)))) (by omega) (by omega) (own_room (hp.1 _ (List.mem_cons_self ..)).2.2.1).1 (own_room (hp.1 _ (List.mem_cons_self ..)).2.2.1).2.1 (own_room (hp.1 _ (List.mem_cons_self ..)).2.2.1).2.2 (own_room (hp.1 _ (List.mem_cons_of_mem _ (List.mem_singleton.2 rfl))).2.2.1).2.2 (hX.keep0 hk) hlc hm hz).mono fun e w' h => page_post hk hp.1 h, fun _ W _ => lnum14_any _ W, fun _ W _ _ ho hx hk _ => opc_self ho hx hk (by kernel_rfl) (flt_nes tq W), fun _ => by simp, fun E W hk hp => (mayT_any _ _ _ _ _ _ zE Ds W (own_rows (hp.1 _ (List.mem_cons_self ..))) rfl (own_rows (hp.1 _ (List.mem_cons_of_mem _ (List.mem_singleton.2 rfl)))) rfl (by omega) (by omega)).mono fun e w' h => GPost.quiet hk (by rw [hmz] at h; exact h), fun _ => by rw [hw1], fun E a w hT1 hF1 => ⟨⟨ac + 1, zE, E.f 13, E.f 14, E.b 13, E.b 14⟩, ⟨by simp only; omega, by simp only; omega, hgz, hT1, hF1⟩, by simp only; omega⟩⟩) (R := (fun e w' => e = .returned (.bool true) ∧ Below w0.heap.size w0 w')) (J := fun e a w => match e with | .normal => ∃ x : ApS, ApI q pk i pg bp bt bk Ds w0 x a w ∧ (3 - x.ac).toNat < (3 - ac).toNat | e => wpI Tryz.prog Q (restAt Tryz.f4 1) e a w) (fun a w h => wpI_ret (hQr a w h)) (fun e a w h => by cases e <;> exact h) (fun _ => by kernel_rfl)
  · have hd3 : decide ((ac : Int) ≤ 2) = false := decide_eq_false h3
    exact wp_ex mixedT Tryz.f4 [(1, .pointer (some ⟨bp, 0, none⟩)), (3, .pointer (some ⟨bt, 0, none⟩)), (4, .int .i64 i), (5, .int .i64 pg), (6, .pointer (some ⟨bk, 0, none⟩)), (7, .int .i64 ac)] [⟨bp, 0, 38, (q14C q), .own⟩, ⟨bt, 0, 35, [.slice fE Es.length cE, .slice fD Ds.length cD], .own⟩, ownFx KE.t 14 fE Es.length cE (rcells KE Es), ownFx KI.t 4 fD Ds.length cD (rcells KI Ds), ⟨bk, 0, 42, (pckC pk).toList, .own⟩] (.r 11 [(1, .rw (fun _ => .bool (decide ((ac : Int) ≤ 2))) (fun _ => .bool false))] (.out (some 2) (fun _ => [(1, .pointer (some ⟨bp, 0, none⟩)), (3, .pointer (some ⟨bt, 0, none⟩)), (4, .int .i64 i), (5, .int .i64 pg), (6, .pointer (some ⟨bk, 0, none⟩)), (7, .int .i64 ac)]) [(0, (fun _ => ⟨bp, 0, 38, (q14C q), .own⟩)), (1, (fun _ => ⟨bt, 0, 35, [.slice fE Es.length cE, .slice fD Ds.length cD], .own⟩)), (2, (fun _ => ownFx KE.t 14 fE Es.length cE (rcells KE Es))), (3, (fun _ => ownFx KI.t 4 fD Ds.length cD (rcells KI Ds))), (4, (fun _ => ⟨bk, 0, 42, (pckC pk).toList, .own⟩))])) hT hF (⟨fun _ => congrArg Value.bool hd3, fun E a w hT1 hF1 => wpI_pop (k' := popD 2 (restAt Tryz.f4 1)) (by kernel_rfl) (wpI_ex mixedT Tryz.f4 (popD 2 (restAt Tryz.f4 1)) [(1, .pointer (some ⟨bp, 0, none⟩)), (3, .pointer (some ⟨bt, 0, none⟩)), (4, .int .i64 i), (5, .int .i64 pg), (6, .pointer (some ⟨bk, 0, none⟩)), (7, .int .i64 ac)] [⟨bp, 0, 38, (q14C q), .own⟩, ⟨bt, 0, 35, [.slice fE Es.length cE, .slice fD Ds.length cD], .own⟩, ownFx KE.t 14 fE Es.length cE (rcells KE Es), ownFx KI.t 4 fD Ds.length cD (rcells KI Ds), ⟨bk, 0, 42, (pckC pk).toList, .own⟩] (.r 6 [(1, .rw (fun _ => .int .i64 (IntKind.i64.wrap (i + 1))) (fun _ => .int .i64 (i + 1)))] (.out none (fun _ => [(1, .pointer (some ⟨bp, 0, none⟩)), (3, .pointer (some ⟨bt, 0, none⟩)), (4, .int .i64 (i + 1))]) [(0, (fun _ => ⟨bp, 0, 38, (q14C q), .own⟩)), (1, (fun _ => ⟨bt, 0, 35, [.slice fE Es.length cE, .slice fD Ds.length cD], .own⟩)), (2, (fun _ => ownFx KE.t 14 fE Es.length cE (rcells KE Es))), (3, (fun _ => ownFx KI.t 4 fD Ds.length cD (rcells KI Ds)))])) hT1 hF1 (⟨fun _ => by rw [hw2], fun E a w hT1 hF1 => hQn a w ⟨ac, Es, fE, fD, cE, cD⟩ hg hT1 hF1⟩) (R := (fun e w' => e = .returned (.bool true) ∧ Below w0.heap.size w0 w')) (J := fun e a w => match e with | .normal => Q .normal a w | _ => False) hQr (fun e a w h => by cases e with | none => exact h | some _ => exact h.elim) (fun _ => by kernel_rfl))⟩) (R := (fun e w' => e = .returned (.bool true) ∧ Below w0.heap.size w0 w')) (J := fun e a w => match e with | .normal => ∃ x : ApS, ApI q pk i pg bp bt bk Ds w0 x a w ∧ (3 - x.ac).toNat < (3 - ac).toNat | e => wpI Tryz.prog Q (restAt Tryz.f4 1) e a w) (fun a w h => wpI_ret (hQr a w h)) (fun e a w h => by cases e <;> exact h) (fun _ => by kernel_rfl)
set_option maxRecDepth 100000 in
theorem ap_out (q : Q14) (bp bt : Nat) (Ds : List Inv) {w0 W : World} {a : Act} {Q : Exit → Act → World → Prop} (ok : Ok14 w0 q) (hM : okM q.l = true) (hw : whoB q = true) (x0 : ApS) (hI : ApO q bp bt Ds w0 x0 a W)
    (hQr : ∀ a w, bodyPost Tryz.prog Tryz.f4 (fun e w' => e = .returned (.bool true) ∧ Below w0.heap.size w0 w') .ret a w → Q .ret a w) :
    wpI Tryz.prog Q (.code (nthLoop Tryz.f4 0) :: restAt Tryz.f4 0) .normal a W := by
  have hX := ok.X
  have hlc := ok.lc
  rw [show nthLoop Tryz.f4 0 = .loop (bodyOf (nthLoop Tryz.f4 0)) from by kernel_rfl]
  refine wp_lp (fun x a w => ApO q bp bt Ds w0 x a w) (fun x => (8 - x.ac).toNat) x0 hI fun x a w hI => ?_
  obtain ⟨ac, Es, fE, fD, cE, cD⟩ := x
  obtain ⟨u0, u1, hg, hT, hF⟩ := hI
  simp only at u0 u1 hg hT hF
  obtain ⟨j, rfl⟩ : ∃ j : Nat, ac = j := ⟨ac.toNat, by omega⟩
  by_cases hjG : j < q.G.length
  · have hdG : decide ((j : Int) < q.G.length) = true := decide_eq_true (by omega)
    by_cases hjP : j < q.P.length
    · have hdP : decide ((j : Int) < q.P.length) = true := decide_eq_true (by omega)
      by_cases h8 : j < 8
      · have hd8 : decide ((j : Int) < 8) = true := decide_eq_true (by omega)
        obtain ⟨pz, hpz⟩ : ∃ g, q.G[j]? = some g := ⟨_, List.getElem?_eq_getElem hjG⟩
        obtain ⟨pk, hpk⟩ : ∃ g, q.P[j]? = some g := ⟨_, List.getElem?_eq_getElem hjP⟩
        obtain ⟨b1, o1, e1, hF⟩ := hF.rows ok.G hpz (Nat.le_refl _) (fun _ _ => nofun)
        obtain ⟨b2, o2, e2, hF⟩ := hF.rows ok.P hpk (Nat.le_refl _) (fun _ _ => nofun)
        have hp0 := within14_in pz
        obtain ⟨pg, hpg⟩ : ∃ g, within14 pz = g := ⟨_, rfl⟩
        rw [hpg] at hp0
        exact wp_ex mixedT Tryz.f4 [(1, .pointer (some ⟨bp, 0, none⟩)), (3, .pointer (some ⟨bt, 0, none⟩)), (4, .int .i64 j)] [⟨bp, 0, 38, (q14C q), .own⟩, ⟨bt, 0, 35, [.slice fE Es.length cE, .slice fD Ds.length cD], .own⟩, ownFx KE.t 14 fE Es.length cE (rcells KE Es), ownFx KI.t 4 fD Ds.length cD (rcells KI Ds), ⟨b1, o1 + j * 1, 3, (KZ.V pz).toList, .row⟩, ⟨b2, o2 + j * 6, 42, (KP.V pk).toList, .row⟩] (.r 5 [a1 4 0 2, (6, .rw (fun _ => .bool (decide ((j : Int) < q.G.length))) (fun _ => .bool true)), a1 10 0 12, (12, .rw (fun _ => .bool (decide ((j : Int) < q.P.length))) (fun _ => .bool true)), (16, .rw (fun _ => .bool (decide ((j : Int) < 8))) (fun _ => .bool true))] (.r 7 [a1 3 0 2, (5, .ix 25 (fun _ => .slice q.fG q.G.length q.cG) (fun _ => .int .i64 j) (fun _ => .pointer (some ⟨b1, o1 + j * 1, none⟩))), a1 6 4 0, (7, .call 21 (fun _ => [.int .i64 pz, .int .i64 4096]) (fun _ => .int .i64 pg))] (.r 8 [a1 1 0 12, (3, .ix 36 (fun _ => .slice q.fP q.P.length q.cP) (fun _ => .int .i64 j) (fun _ => .pointer (some ⟨b2, o2 + j * 6, none⟩))), aN 4 5 0 6, aN 6 6 0 6] (.r 9 [a1 1 6 4] (.lp (restAt Tryz.f4 1) (nthLoop Tryz.f4 1) (fun E => [(1, .pointer (some ⟨bp, 0, none⟩)), (3, .pointer (some ⟨bt, 0, none⟩)), (4, .int .i64 j), (5, .int .i64 pg), (6, .pointer (some ⟨E.b 6, 0, none⟩)), (7, .int .i64 0)]) [(0, (fun _ => ⟨bp, 0, 38, (q14C q), .own⟩)), (1, (fun _ => ⟨bt, 0, 35, [.slice fE Es.length cE, .slice fD Ds.length cD], .own⟩)), (2, (fun _ => ownFx KE.t 14 fE Es.length cE (rcells KE Es))), (3, (fun _ => ownFx KI.t 4 fD Ds.length cD (rcells KI Ds))), (6, (fun E => ⟨E.b 6, 0, 42, [.int .i64 pk.c, .bool pk.f, .bool pk.m, .bool pk.w, .int .i64 (-1), .bool pk.u], .own⟩))]))))) hT hF (⟨fun _ => congrArg Value.bool hdG, fun _ => congrArg Value.bool hdP, fun _ => congrArg Value.bool hd8, fun _ _ => by rw [e1]; exact ix_row 25 3 b1 o1 _ _ j 1 Tryz.underlying25 (by kernel_rfl) hjG, fun _ W _ => (within14_any pz W).mono fun _ _ hJ => ⟨hJ.1.trans (by rw [hpg]), hJ.2⟩, fun _ _ => by rw [e2]; exact ix_row 36 42 b2 o2 _ _ j 6 Tryz.underlying36 (by kernel_rfl) hjP, fun E a w hT1 hF1 Q' hQr' hQj => ap_in q ⟨pk.c, pk.f, pk.m, pk.w, -1, pk.u⟩ j pg bp bt (E.b 6) Ds hX hlc rfl hM hw hp0.1 hp0.2 ⟨by omega, by omega⟩ ⟨0, Es, fE, fD, cE, cD⟩ ⟨show (0 : Int) ≤ 0 by decide, show (0 : Int) ≤ 3 by decide, hg, hT1, hF1⟩ hQr' (fun a w x h1 h2 h3 => hQj none a w ⟨⟨(j : Int) + 1, x.Es, x.fE, x.fD, x.cE, x.cD⟩, ⟨by simp only; omega, by simp only; omega, h1, h2, h3⟩, by simp only; omega⟩)⟩) (R := (fun e w' => e = .returned (.bool true) ∧ Below w0.heap.size w0 w')) (J := fun e a w => match e with | .normal => ∃ x : ApS, ApO q bp bt Ds w0 x a w ∧ (8 - x.ac).toNat < (8 - (j : Int)).toNat | e => wpI Tryz.prog Q (restAt Tryz.f4 0) e a w) (fun a w h => wpI_ret (hQr a w h)) (fun e a w h => by cases e <;> exact h) (fun _ => by kernel_rfl)
      · have hd8 : decide ((j : Int) < 8) = false := decide_eq_false (by omega)
        exact wp_ex mixedT Tryz.f4 [(1, .pointer (some ⟨bp, 0, none⟩)), (3, .pointer (some ⟨bt, 0, none⟩)), (4, .int .i64 j)] [⟨bp, 0, 38, (q14C q), .own⟩, ⟨bt, 0, 35, [.slice fE Es.length cE, .slice fD Ds.length cD], .own⟩, ownFx KE.t 14 fE Es.length cE (rcells KE Es), ownFx KI.t 4 fD Ds.length cD (rcells KI Ds)] (.r 5 [a1 4 0 2, (6, .rw (fun _ => .bool (decide ((j : Int) < q.G.length))) (fun _ => .bool true)), a1 10 0 12, (12, .rw (fun _ => .bool (decide ((j : Int) < q.P.length))) (fun _ => .bool true)), (16, .rw (fun _ => .bool (decide ((j : Int) < 8))) (fun _ => .bool false))] (.out (some 0) (fun _ => [(1, .pointer (some ⟨bp, 0, none⟩)), (3, .pointer (some ⟨bt, 0, none⟩)), (4, .int .i64 j)]) [(0, (fun _ => ⟨bp, 0, 38, (q14C q), .own⟩)), (1, (fun _ => ⟨bt, 0, 35, [.slice fE Es.length cE, .slice fD Ds.length cD], .own⟩)), (2, (fun _ => ownFx KE.t 14 fE Es.length cE (rcells KE Es))), (3, (fun _ => ownFx KI.t 4 fD Ds.length cD (rcells KI Ds)))])) hT hF (⟨fun _ => congrArg Value.bool hdG, fun _ => congrArg Value.bool hdP, fun _ => congrArg Value.bool hd8, fun E a w hT1 hF1 => wpI_pop (k' := popD 0 (restAt Tryz.f4 0)) (by kernel_rfl) (wpI_ex mixedT Tryz.f4 (popD 0 (restAt Tryz.f4 0)) [(1, .pointer (some ⟨bp, 0, none⟩)), (3, .pointer (some ⟨bt, 0, none⟩)), (4, .int .i64 j)] [⟨bp, 0, 38, (q14C q), .own⟩, ⟨bt, 0, 35, [.slice fE Es.length cE, .slice fD Ds.length cD], .own⟩, ownFx KE.t 14 fE Es.length cE (rcells KE Es), ownFx KI.t 4 fD Ds.length cD (rcells KI Ds)] (.r 21 [(0, .call 18 (fun _ => []) (fun _ => .bool true))] (.fin [] (fun _ => .bool true) [])) hT1 hF1 (⟨fun _ W _ => wakes14_any W, fun _ _ hk _ => ⟨rfl, hk.below⟩⟩) (R := (fun e w' => e = .returned (.bool true) ∧ Below w0.heap.size w0 w')) (J := fun _ _ _ => False) hQr (fun _ _ _ h => h.elim) (fun _ => by kernel_rfl))⟩) (R := (fun e w' => e = .returned (.bool true) ∧ Below w0.heap.size w0 w')) (J := fun e a w => match e with | .normal => ∃ x : ApS, ApO q bp bt Ds w0 x a w ∧ (8 - x.ac).toNat < (8 - (j : Int)).toNat | e => wpI Tryz.prog Q (restAt Tryz.f4 0) e a w) (fun a w h => wpI_ret (hQr a w h)) (fun e a w h => by cases e <;> exact h) (fun _ => by kernel_rfl)
    · have hdP : decide ((j : Int) < q.P.length) = false := decide_eq_false (by omega)
      exact wp_ex mixedT Tryz.f4 [(1, .pointer (some ⟨bp, 0, none⟩)), (3, .pointer (some ⟨bt, 0, none⟩)), (4, .int .i64 j)] [⟨bp, 0, 38, (q14C q), .own⟩, ⟨bt, 0, 35, [.slice fE Es.length cE, .slice fD Ds.length cD], .own⟩, ownFx KE.t 14 fE Es.length cE (rcells KE Es), ownFx KI.t 4 fD Ds.length cD (rcells KI Ds)] (.r 5 [a1 4 0 2, (6, .rw (fun _ => .bool (decide ((j : Int) < q.G.length))) (fun _ => .bool true)), a1 10 0 12, (12, .rw (fun _ => .bool (decide ((j : Int) < q.P.length))) (fun _ => .bool false))] (.out (some 0) (fun _ => [(1, .pointer (some ⟨bp, 0, none⟩)), (3, .pointer (some ⟨bt, 0, none⟩)), (4, .int .i64 j)]) [(0, (fun _ => ⟨bp, 0, 38, (q14C q), .own⟩)), (1, (fun _ => ⟨bt, 0, 35, [.slice fE Es.length cE, .slice fD Ds.length cD], .own⟩)), (2, (fun _ => ownFx KE.t 14 fE Es.length cE (rcells KE Es))), (3, (fun _ => ownFx KI.t 4 fD Ds.length cD (rcells KI Ds)))])) hT hF (⟨fun _ => congrArg Value.bool hdG, fun _ => congrArg Value.bool hdP, fun E a w hT1 hF1 => wpI_pop (k' := popD 0 (restAt Tryz.f4 0)) (by kernel_rfl) (wpI_ex mixedT Tryz.f4 (popD 0 (restAt Tryz.f4 0)) [(1, .pointer (some ⟨bp, 0, none⟩)), (3, .pointer (some ⟨bt, 0, none⟩)), (4, .int .i64 j)] [⟨bp, 0, 38, (q14C q), .own⟩, ⟨bt, 0, 35, [.slice fE Es.length cE, .slice fD Ds.length cD], .own⟩, ownFx KE.t 14 fE Es.length cE (rcells KE Es), ownFx KI.t 4 fD Ds.length cD (rcells KI Ds)] (.r 21 [(0, .call 18 (fun _ => []) (fun _ => .bool true))] (.fin [] (fun _ => .bool true) [])) hT1 hF1 (⟨fun _ W _ => wakes14_any W, fun _ _ hk _ => ⟨rfl, hk.below⟩⟩) (R := (fun e w' => e = .returned (.bool true) ∧ Below w0.heap.size w0 w')) (J := fun _ _ _ => False) hQr (fun _ _ _ h => h.elim) (fun _ => by kernel_rfl))⟩) (R := (fun e w' => e = .returned (.bool true) ∧ Below w0.heap.size w0 w')) (J := fun e a w => match e with | .normal => ∃ x : ApS, ApO q bp bt Ds w0 x a w ∧ (8 - x.ac).toNat < (8 - (j : Int)).toNat | e => wpI Tryz.prog Q (restAt Tryz.f4 0) e a w) (fun a w h => wpI_ret (hQr a w h)) (fun e a w h => by cases e <;> exact h) (fun _ => by kernel_rfl)
  · have hdG : decide ((j : Int) < q.G.length) = false := decide_eq_false (by omega)
    exact wp_ex mixedT Tryz.f4 [(1, .pointer (some ⟨bp, 0, none⟩)), (3, .pointer (some ⟨bt, 0, none⟩)), (4, .int .i64 j)] [⟨bp, 0, 38, (q14C q), .own⟩, ⟨bt, 0, 35, [.slice fE Es.length cE, .slice fD Ds.length cD], .own⟩, ownFx KE.t 14 fE Es.length cE (rcells KE Es), ownFx KI.t 4 fD Ds.length cD (rcells KI Ds)] (.r 5 [a1 4 0 2, (6, .rw (fun _ => .bool (decide ((j : Int) < q.G.length))) (fun _ => .bool false))] (.out (some 0) (fun _ => [(1, .pointer (some ⟨bp, 0, none⟩)), (3, .pointer (some ⟨bt, 0, none⟩)), (4, .int .i64 j)]) [(0, (fun _ => ⟨bp, 0, 38, (q14C q), .own⟩)), (1, (fun _ => ⟨bt, 0, 35, [.slice fE Es.length cE, .slice fD Ds.length cD], .own⟩)), (2, (fun _ => ownFx KE.t 14 fE Es.length cE (rcells KE Es))), (3, (fun _ => ownFx KI.t 4 fD Ds.length cD (rcells KI Ds)))])) hT hF (⟨fun _ => congrArg Value.bool hdG, fun E a w hT1 hF1 => wpI_pop (k' := popD 0 (restAt Tryz.f4 0)) (by kernel_rfl) (wpI_ex mixedT Tryz.f4 (popD 0 (restAt Tryz.f4 0)) [(1, .pointer (some ⟨bp, 0, none⟩)), (3, .pointer (some ⟨bt, 0, none⟩)), (4, .int .i64 j)] [⟨bp, 0, 38, (q14C q), .own⟩, ⟨bt, 0, 35, [.slice fE Es.length cE, .slice fD Ds.length cD], .own⟩, ownFx KE.t 14 fE Es.length cE (rcells KE Es), ownFx KI.t 4 fD Ds.length cD (rcells KI Ds)] (.r 21 [(0, .call 18 (fun _ => []) (fun _ => .bool true))] (.fin [] (fun _ => .bool true) [])) hT1 hF1 (⟨fun _ W _ => wakes14_any W, fun _ _ hk _ => ⟨rfl, hk.below⟩⟩) (R := (fun e w' => e = .returned (.bool true) ∧ Below w0.heap.size w0 w')) (J := fun _ _ _ => False) hQr (fun _ _ _ h => h.elim) (fun _ => by kernel_rfl))⟩) (R := (fun e w' => e = .returned (.bool true) ∧ Below w0.heap.size w0 w')) (J := fun e a w => match e with | .normal => ∃ x : ApS, ApO q bp bt Ds w0 x a w ∧ (8 - x.ac).toNat < (8 - (j : Int)).toNat | e => wpI Tryz.prog Q (restAt Tryz.f4 0) e a w) (fun a w h => wpI_ret (hQr a w h)) (fun e a w h => by cases e <;> exact h) (fun _ => by kernel_rfl)
set_option maxRecDepth 100000 in
theorem plain_walk (q : Q14) (w : World) (ok : Ok14 w q) : Calls Tryz.prog 4 #[.agg (q14C q).toArray] w fun e w' => e = .returned (.bool true) ∧ Below w.heap.size w w' := by
  cases hhv : heavy14 q
  · cases hmv : okM q.l
    · exact calls_ex mixedT [ownFx KE.t 14 none ([] : List Ety).length 0 (rcells KE []), ownFx KI.t 4 none ([] : List Inv).length 0 (rcells KI [])] (.r 1 [aN 0 2 0 13, (1, .call 9 (fun _ => [.agg #[.slice q.f q.l q.c, .int .i64 q.fr, .slice q.fG q.G.length q.cG, .bool q.on1, .int .i64 q.of1, .int .i64 q.tg1, .bool q.on2, .int .i64 q.tf, .int .i64 q.tg, .int .i64 q.ac, .slice q.fE q.E.length q.cE, .slice q.fD q.D.length q.cD, .slice q.fP q.P.length q.cP]]) (fun _ => .bool false)), a1 6 2 0, (7, .call 19 (fun _ => [.agg #[.slice q.f q.l q.c]]) (fun _ => .bool false))] (.fin [] (fun _ => .bool true) [])) Tryz.func4 rfl (((Fits.nil w).nilrow KE.t 14).nilrow KI.t 4) (⟨fun _ W hk => (heavy14_any q w W ok).mono fun _ _ hJ => ⟨hJ.1.trans (by rw [hhv]), hJ.2⟩, fun _ W _ => (rmemB q.f q.l q.c W).mono fun _ _ hJ => ⟨hJ.1.trans (by rw [hmv]), hJ.2⟩, fun _ _ hk _ => ⟨rfl, hk.below⟩⟩) rfl (fun _ => by kernel_rfl)
    · cases hwv : whoB q
      · exact calls_ex mixedT [ownFx KE.t 14 none ([] : List Ety).length 0 (rcells KE []), ownFx KI.t 4 none ([] : List Inv).length 0 (rcells KI [])] (.r 1 [aN 0 2 0 13, (1, .call 9 (fun _ => [.agg #[.slice q.f q.l q.c, .int .i64 q.fr, .slice q.fG q.G.length q.cG, .bool q.on1, .int .i64 q.of1, .int .i64 q.tg1, .bool q.on2, .int .i64 q.tf, .int .i64 q.tg, .int .i64 q.ac, .slice q.fE q.E.length q.cE, .slice q.fD q.D.length q.cD, .slice q.fP q.P.length q.cP]]) (fun _ => .bool false)), a1 6 2 0, (7, .call 19 (fun _ => [.agg #[.slice q.f q.l q.c]]) (fun _ => .bool true)), aN 13 2 3 3, aN 16 2 6 3, (17, .call 20 (fun _ => [.agg #[.bool q.on1, .int .i64 q.of1, .int .i64 q.tg1], .agg #[.bool q.on2, .int .i64 q.tf, .int .i64 q.tg]]) (fun _ => .bool false))] (.fin [] (fun _ => .bool true) [])) Tryz.func4 rfl (((Fits.nil w).nilrow KE.t 14).nilrow KI.t 4) (⟨fun _ W hk => (heavy14_any q w W ok).mono fun _ _ hJ => ⟨hJ.1.trans (by rw [hhv]), hJ.2⟩, fun _ W _ => (rmemB q.f q.l q.c W).mono fun _ _ hJ => ⟨hJ.1.trans (by rw [hmv]), hJ.2⟩, fun _ W _ => (who_any q.on1 q.of1 q.tg1 q.on2 q.tf q.tg W).mono fun _ _ hJ => ⟨hJ.1.trans (by rw [(show (rootB q.of1 q.tg1 && (rootB q.tf q.tg && q.on2)) = false from hwv)]), hJ.2⟩, fun _ _ hk _ => ⟨rfl, hk.below⟩⟩) rfl (fun _ => by kernel_rfl)
      · exact calls_ex mixedT [ownFx KE.t 14 none ([] : List Ety).length 0 (rcells KE []), ownFx KI.t 4 none ([] : List Inv).length 0 (rcells KI [])] (.r 1 [aN 0 2 0 13, (1, .call 9 (fun _ => [.agg #[.slice q.f q.l q.c, .int .i64 q.fr, .slice q.fG q.G.length q.cG, .bool q.on1, .int .i64 q.of1, .int .i64 q.tg1, .bool q.on2, .int .i64 q.tf, .int .i64 q.tg, .int .i64 q.ac, .slice q.fE q.E.length q.cE, .slice q.fD q.D.length q.cD, .slice q.fP q.P.length q.cP]]) (fun _ => .bool false)), a1 6 2 0, (7, .call 19 (fun _ => [.agg #[.slice q.f q.l q.c]]) (fun _ => .bool true)), aN 13 2 3 3, aN 16 2 6 3, (17, .call 20 (fun _ => [.agg #[.bool q.on1, .int .i64 q.of1, .int .i64 q.tg1], .agg #[.bool q.on2, .int .i64 q.tf, .int .i64 q.tg]]) (fun _ => .bool true))] (.lp (restAt Tryz.f4 0) (nthLoop Tryz.f4 0) (fun E => [(1, .pointer (some ⟨E.b 2, 0, none⟩)), (3, .pointer (some ⟨E.b 3, 0, none⟩)), (4, .int .i64 0)]) [(2, (fun E => ⟨E.b 2, 0, 38, (q14C q), .own⟩)), (3, (fun E => ⟨E.b 3, 0, 35, [.slice none 0 0, .slice none 0 0], .own⟩)), (0, (fun _ => ownFx KE.t 14 none ([] : List Ety).length 0 (rcells KE []))), (1, (fun _ => ownFx KI.t 4 none ([] : List Inv).length 0 (rcells KI [])))])) Tryz.func4 rfl (((Fits.nil w).nilrow KE.t 14).nilrow KI.t 4) (⟨fun _ W hk => (heavy14_any q w W ok).mono fun _ _ hJ => ⟨hJ.1.trans (by rw [hhv]), hJ.2⟩, fun _ W _ => (rmemB q.f q.l q.c W).mono fun _ _ hJ => ⟨hJ.1.trans (by rw [hmv]), hJ.2⟩, fun _ W _ => (who_any q.on1 q.of1 q.tg1 q.on2 q.tf q.tg W).mono fun _ _ hJ => ⟨hJ.1.trans (by rw [(show (rootB q.of1 q.tg1 && (rootB q.tf q.tg && q.on2)) = true from hwv)]), hJ.2⟩, fun E a W hT1 hF1 Q hQr _ => ap_out q (E.b 2) (E.b 3) [] ok hmv hwv ⟨0, [], none, none, 0, 0⟩ ⟨show (0 : Int) ≤ 0 by decide, show (0 : Int) ≤ 8 by decide, ⟨by decide, (fun _ h => nomatch h), (fun _ h => nomatch h)⟩, hT1, hF1⟩ hQr⟩) rfl (fun _ => by kernel_rfl)
  · exact calls_ex mixedT [ownFx KE.t 14 none ([] : List Ety).length 0 (rcells KE []), ownFx KI.t 4 none ([] : List Inv).length 0 (rcells KI [])] (.r 1 [aN 0 2 0 13, (1, .call 9 (fun _ => [.agg #[.slice q.f q.l q.c, .int .i64 q.fr, .slice q.fG q.G.length q.cG, .bool q.on1, .int .i64 q.of1, .int .i64 q.tg1, .bool q.on2, .int .i64 q.tf, .int .i64 q.tg, .int .i64 q.ac, .slice q.fE q.E.length q.cE, .slice q.fD q.D.length q.cD, .slice q.fP q.P.length q.cP]]) (fun _ => .bool true))] (.fin [] (fun _ => .bool true) [])) Tryz.func4 rfl (((Fits.nil w).nilrow KE.t 14).nilrow KI.t 4) (⟨fun _ W hk => (heavy14_any q w W ok).mono fun _ _ hJ => ⟨hJ.1.trans (by rw [hhv]), hJ.2⟩, fun _ _ hk _ => ⟨rfl, hk.below⟩⟩) rfl (fun _ => by kernel_rfl)
end Go.Proofs.YtmelepohdbojlaaGreat
