/- Stage 14: the laws' small calls. -/
import Derived.Test.YtmelepohdbojlaaGreatZf
import Derived.Test.YtmelepohdbojlaaGreatZo
import Derived.Test.YtmelepohdbojlaaGreatIs
set_option linter.all false
namespace Go.Proofs.YtmelepohdbojlaaGreat
open Go.ChangeShapes Go.WideShapes Go.ChangeAt Go.RowKit Go.Deep
def ZeroW (n : Nat) (f : Option Addr) (c : Nat) (W : World) : Prop := c = n ∧ WordsAt W f n (fun _ => 0#64)
theorem ZeroW.local (n : Nat) (f : Option Addr) (c : Nat) : Local (f.map (·.block)) (ZeroW n f c) := fun w w' h hb _ => ⟨h.1, fun j hj => by
 obtain ⟨b, o, rfl, hc⟩ := h.2 j hj
 exact ⟨b, o, rfl, (World.cell?_of_block (w := w) (a := ⟨b, o + j, none⟩) (hb b rfl)).trans hc⟩⟩
theorem mk_opc {ft : List Nat} {w0 W : World} {k n : Nat} {pre : BL} {E : Env} {ρ : Operand → Value} {o : Oper} {x y : Operand} (ho : o.op = .makeSlice 22 x y) (hx : [ρ x, ρ y] = [.int .i64 (n : Int), .int .i64 (n : Int)]) (hk : Keep ft w0 W) (hn : n ≤ 100000) (h0 : 0 < n) :
  ∃ r q w', (execOp ρ o).run Tryz.prog W = .ok (.value r) w' ∧ GPost ft w0 k (fun E => .slice (E.f k) n (E.b k)) pre [] [fun E => ZeroW n (E.f k) (E.b k)] E W (.returned r) w' q := by
 obtain ⟨W2, hr, hX, hb⟩ := make8 W n hn
 obtain ⟨b, hbs⟩ : ∃ b, W.heap.size = b := ⟨_, rfl⟩
 have hlt : 0 < n → b < W2.heap.size := fun h => by
  obtain ⟨b1, o1, he, hc⟩ := hX 0 h
  injection he with he
  injection he with he
  have := cell_block hc
  simp only at this
  omega
 simp only [List.cons.injEq, and_true] at hx
 obtain ⟨q, hq⟩ := GPost.made (k := k) (pre := pre) (E := E) (e := .returned (.slice (some ⟨W.heap.size, 0, none⟩) n n)) (v := fun E => .slice (E.f k) n (E.b k)) (new := [fun E => ZeroW n (E.f k) (E.b k)]) (fun _ => (n, some ⟨W.heap.size, 0, none⟩)) hk hb (by
   show Ending.returned _ = .returned (.slice ((E.set k (n, some ⟨W.heap.size, 0, none⟩)).f k) n ((E.set k (n, some ⟨W.heap.size, 0, none⟩)).b k))
   rw [set_f, set_c]) (fun j p hj => by
   obtain ⟨rfl, rfl⟩ : 0 = j ∧ _ = p := by
    cases j with
    | zero => exact ⟨rfl, Option.some.inj hj⟩
    | succ j => simp at hj
   have e1 : ZeroW n ((E.set k (n, some ⟨W.heap.size, 0, none⟩)).f k) ((E.set k (n, some ⟨W.heap.size, 0, none⟩)).b k) = ZeroW n (some ⟨W.heap.size, 0, none⟩) n := by rw [set_f, set_c]
   refine ⟨(congrFun e1 W2).mpr ⟨rfl, hX⟩, (congrArg (Local (some W.heap.size)) e1).mpr (ZeroW.local n (some ⟨W.heap.size, 0, none⟩) n), fun c hc => ?_⟩
   obtain rfl := Option.some.inj hc
   exact ⟨by have := hlt h0; show W.heap.size < W2.heap.size; omega, Nat.le_refl _, fun j' h1 h2 => by simp at h1; omega⟩)
 refine ⟨_, q, W2, ?_, hq⟩
 unfold execOp
 simp only [ho, hx.1, hx.2, Sem.run_bind, hr, Result.andThen_ok, Sem.run_pure]
theorem page_post {ft : List Nat} {w0 W w' : World} {k : Nat} {pre : BL} {E : Env} {e : Ending} {v : Value → Value → Value} {Es : List Ety} {Ds : List Inv} {Rs : List Int} (hk : Keep ft w0 W) (hp : ∀ p ∈ pre, (p.2 E).Holds ft w0 W) (h : PageEnd W v Es Ds Rs e w') :
  ∃ q, GPost ft w0 k (fun E => v (.agg #[.slice (E.f k) Es.length (E.b k), .slice (E.f (k + 1)) Ds.length (E.b (k + 1))]) (.slice (E.f (k + 2)) Rs.length (E.b (k + 2)))) pre [] [fun E => OwnP KE.t 14 (E.f k) Es.length (E.b k) (rcells KE Es), fun E => OwnP KI.t 4 (E.f (k + 1)) Ds.length (E.b (k + 1)) (rcells KI Ds), fun E => OwnP 3 1 (E.f (k + 2)) Rs.length (E.b (k + 2)) (icells Rs)] E W e w' q := by
 obtain ⟨aE, kE, aD, kD, aR, kR, he, hF⟩ := h
 have q0 : (fun i => if i = k then (kE, aE) else if i = k + 1 then (kD, aD) else (kR, aR) : Sup) k = (kE, aE) := if_pos rfl
 have q1 : (fun i => if i = k then (kE, aE) else if i = k + 1 then (kD, aD) else (kR, aR) : Sup) (k + 1) = (kD, aD) := (if_neg (by omega)).trans (if_pos rfl)
 have q2 : (fun i => if i = k then (kE, aE) else if i = k + 1 then (kD, aD) else (kR, aR) : Sup) (k + 2) = (kR, aR) := (if_neg (by omega)).trans (if_neg (by omega))
 generalize (fun i => if i = k then (kE, aE) else if i = k + 1 then (kD, aD) else (kR, aR) : Sup) = q at *
 have f0 : ∀ a b c, (((E.set k a).set (k + 1) b).set (k + 2) c).e k = a := fun a b c => by rw [set_ne _ _ _ _ (by omega), set_ne _ _ _ _ (by omega), set_at]
 have f1 : ∀ a b c, (((E.set k a).set (k + 1) b).set (k + 2) c).e (k + 1) = b := fun a b c => by rw [set_ne _ _ _ _ (by omega), set_at]
 have f2 : ∀ a b c, (((E.set k a).set (k + 1) b).set (k + 2) c).e (k + 2) = c := fun a b c => set_at _ _ _
 refine GPost.fin (ft := []) q hk hp (fun x hx => by cases hx) (fun p _ p' hp' => by cases hp') ?_ ?_
 ·rw [he]
  simp only [envN, Env.f, Env.b, show k + 1 + 1 = k + 2 from rfl, q0, q1, q2, f0, f1, f2]
 ·show Fits [] W [factB q _ k _, factB q _ (k + 1) _, factB q _ (k + 1 + 1) _] w'
  unfold factB
  simp only [envN, Env.f, Env.b, show k + 1 + 1 = k + 2 from rfl, q0, q1, q2, f0, f1, f2]
  exact hF
theorem spoil_post {ft : List Nat} {w0 W w' : World} {k i j nE cE nD cD sE sD : Nat} {eE eD : TypeId} {fE fD : Option Addr} {xsE xsD : List Value} {xE xD : Env → Bx} {E : Env} {e : Ending} (hk : Keep ft w0 W) (hp : ∀ p ∈ [(i, xE), (j, xD)], (p.2 E).Holds ft w0 W)
  (h : e = .returned (.tuple #[]) ∧ ∃ v, W.grownBy v (Value.slice fE nE cE).ownBlock ∧ v.grownBy w' (Value.slice fD nD cD).ownBlock) (hE : xE E = ownFx eE sE fE nE cE xsE := by rfl) (hD : xD E = ownFx eD sD fD nD cD xsD := by rfl) :
  ∃ q, GPost ft w0 k (fun _ => .tuple #[]) [(i, xE), (j, xD)] [(i, fun _ => noBx), (j, fun _ => noBx)] [] E W e w' q := by
 obtain ⟨he, v, h1, h2⟩ := h
 have rE : (Value.slice fE nE cE).ownBlock = fE.map (·.block) := by cases fE <;> rfl
 have rD : (Value.slice fD nD cD).ownBlock = fD.map (·.block) := by cases fD <;> rfl
 rw [rE] at h1
 rw [rD] at h2
 have hkk : Keep ((fE.map (·.block)).toList ++ (fD.map (·.block)).toList) W w' := ⟨h2.os.trans h1.os, h2.tape.trans h1.tape, h2.output.trans h1.output, Nat.le_trans h1.size h2.size, fun b hb hn => by
  simp only [List.mem_append, Option.mem_toList, not_or] at hn
  exact (h2.block b (Nat.lt_of_lt_of_le hb h1.size) (fun h => hn.2 h.symm)).trans (h1.block b hb (fun h => hn.1 h.symm))⟩
 refine GPost.fin (ft := (fE.map (·.block)).toList ++ (fD.map (·.block)).toList) (fun _ => (0, none)) hk hp (fun x hx => ?_) (fun p hpp p' hp' hi => ?_) he ?_
 ·simp only [List.mem_append, Option.mem_toList] at hx
  rcases hx with hx | hx
  ·exact ⟨(i, xE), by simp, (congrArg Bx.fp hE).trans hx, by simp⟩
  ·exact ⟨(j, xD), by simp, (congrArg Bx.fp hD).trans hx, by simp⟩
 ·simp only [List.mem_cons, List.not_mem_nil, or_false] at hp'
  rcases hp' with rfl | rfl
  ·exact Or.inl rfl
  ·exact Or.inl rfl
 ·have key : ∀ (n : Nat) (x : Bx), [noBx, noBx][n]? = some x → x = noBx := fun n x hx => by
   match n with
   | 0 => exact (Option.some.inj hx).symm
   | 1 => exact (Option.some.inj hx).symm
   | n + 2 => simp at hx
  refine ⟨hkk, fun n x hx => ?_, fun n m x y hx hy hnm c hc => ?_⟩
  ·obtain rfl := key n x hx
   rfl
  ·obtain rfl := key n x hx
   cases hc
abbrev Q14.k (q : Q14) (p : Pck) (pg acc : Int) : TrC := ⟨q.f, q.l, q.c, q.X, q.on1, q.of1, q.tg1, q.on2, q.tf, q.tg, p.c, p.f, p.m, p.w, p.d, p.u, pg, acc⟩
theorem end_may {k : TrC} (ok : TrOk k) {Ds : List Inv} {Es : List Ety} {Rs : List Int} (hT : mayT Es Ds = true) (hG : GoodE k.l Es) : mayT (endL k.a k.on1 k.pg k.acc ⟨Es, Rs⟩).2.E Ds = true := by
 unfold endL
 split
 ·have hr := reach_good ok (s := ⟨Es, Rs⟩) (acc := k.acc) hT hG ok.p0 ok.p1 rfl
  unfold landK
  split <;> exact hr.1
 ·split
  ·exact hT
  ·have hf := followB_good ok (Rs := Rs) hT hG rfl
   unfold fillK
   simp only
   split
   ·rename_i hq
    exact mayT_fill hf.1 (hf.2 hq.2)
   ·exact hf.1
theorem page_may {k : TrC} {Es : List Ety} {Ds : List Inv} (h : mayB14 k Es Ds = true) (hlc : k.l ≤ k.c) : mayT (pageA k.a k.on1 Es k.pg k.acc k.pd).2.E Ds = true := by
 obtain ⟨ok, hT, hG⟩ := mayB_ok h hlc
 rw [← end_eq k.a k.on1 Es k.pg k.acc k.pd ok.t0 ok.o0 ok.p0 (okE_of hT hG)]
 exact end_may ok (mayT_dropA hT _) ((okE_of hT hG).drop _).1
theorem mayT_len' {F : List Ety} {D : List Inv} (h : mayT F D = true) : F.length ≤ 8 ∧ D.length ≤ 8 := mayT_len h
def heavy14 (q : Q14) : Bool := heavy5 q.l q.G.length || decide (((q.E.length : Int) + (q.D.length : Int)) > 200) || decide ((q.P.length : Int) > 200)
theorem heavy14_no {q : Q14} (h : heavy14 q = false) : q.l ≤ 2000 ∧ q.G.length ≤ 500 ∧ q.E.length ≤ 200 ∧ q.D.length ≤ 200 ∧ q.P.length ≤ 200 := by
 unfold heavy14 at h
 simp only [Bool.or_eq_false_iff, decide_eq_false_iff_not] at h
 obtain ⟨⟨h1, h2⟩, h3⟩ := h
 have := heavy5_no h1
 omega
theorem rpage_any (k : TrC) (fE fD : Option Addr) (cE cD : Nat) (Es : List Ety) (Ds : List Inv) (w : World) (hX : WordsAt w k.f k.l k.X) (hE : RowsAt KE w fE Es) (hD : RowsAt KI w fD Ds) (hc : Es.length ≤ cE) (hc2 : cE ≤ maxLen) (hlc : k.l ≤ k.c) (hB : mayB14 k Es Ds = true) {z : AcR} (hz : pageA k.a k.on1 Es k.pg k.acc k.pd = z) :
  Calls Tryz.prog 14 #[.agg #[.slice k.f k.l k.c], .agg #[.slice fE Es.length cE, .slice fD Ds.length cD], .agg #[.bool k.on1, .int .i64 k.of1, .int .i64 k.tg1], .agg #[.bool k.on2, .int .i64 k.tf, .int .i64 k.tg], .int .i64 k.pg, .int .i64 k.acc, .agg #[.int .i64 k.pc, .bool k.pf, .bool k.pm, .bool k.pw, .int .i64 k.pd, .bool k.pu]] w
   (PageEnd w (fun vT vR => .tuple #[.int .i64 z.1.1, fltV z.1.2, vT, vR]) z.2.E Ds z.2.R) := by
 obtain ⟨ok, hT, hG⟩ := mayB_ok hB hlc
 have hl := mayT_len hT
 have h := wpage_any k.f k.l k.c k.on1 k.of1 k.tg1 k.tf k.tg k.pc k.pf k.pm k.pw k.pd k.pu k.X fE fD cE cD Es Ds k.pg k.acc w ok.hM hX hE hD ⟨hc, Nat.le_trans hc2 (by decide)⟩ ok.t0 ok.t1 ok.o0 ok.o1 ok.p0 ok.p1 (by omega) (by omega) (okE_of hT hG)
 rw [ok.on2]
 subst hz
 exact h
theorem eqT14_any (f g f2 g2 : Option Addr) (c d c2 d2 : Nat) (E : List Ety) (D : List Inv) (w : World) (hE : RowsAt KE w f E) (hD : RowsAt KI w g D) (hE2 : RowsAt KE w f2 E) (hD2 : RowsAt KI w g2 D) (hls : E.length ≤ 1000000) (hms : D.length ≤ 1000000) :
  Calls Tryz.prog 15 #[.agg #[.slice f E.length c, .slice g D.length d], .agg #[.slice f2 E.length c2, .slice g2 D.length d2]] w fun r w' => r = .returned (.bool true) ∧ Below w.heap.size w w' := by
 have := eqT_any f g f2 g2 _ c _ d _ c2 _ d2 E E D D w hE rfl hD rfl hE2 rfl hD2 rfl hls hms
 simpa using this
theorem eqI14_any (f g : Option Addr) (c d : Nat) (L : List Int) (w : World) (hl : L.length ≤ 1000000) (h1 : OwnP 3 1 f L.length c (icells L) w) (h2 : OwnP 3 1 g L.length d (icells L) w) :
  Calls Tryz.prog 16 #[.slice f L.length c, .slice g L.length d] w fun e w' => e = .returned (.bool true) ∧ Below w.heap.size w w' :=
 (eqI_any f g _ _ c d L w hl rfl rfl (show OwnI w 0 (.slice f L.length c) L from h1).ints.2 (show OwnI w 0 (.slice g L.length d) L from h2).ints.2).mono fun e w' h => by
  obtain ⟨he, m, rfl⟩ := h
  exact ⟨he, below_drewN (Below.refl _ _) m⟩
theorem follow_len {k : TrC} (ok : TrOk k) {Ds : List Inv} : ∀ (n : Nat) (lv fr : Int) (s : WkS), lv + n ≤ 4 → 0 ≤ lv → mayT s.E Ds = true → GoodE k.l s.E → (followL k.a k.pg k.acc n lv fr s).2.R.length ≤ s.R.length + 5 * n + 4
 | 0, lv, fr, s, _, _, _, _ => by
  unfold followL
  simp only
  omega
 | n + 1, lv, fr, s, hl, l0, hT, hG => by
  have hkd := tbl_kind k.X 1 lv fr k.pg
  have hdf := tbl_frame k.X 1 lv fr k.pg
  have htin := tbl_in k.X 1 lv fr k.pg
  have hc := mod_cov k.pg lv ok.p0
  unfold followL lookK
  generalize tblD k.X 1 lv fr k.pg = d at *
  rcases hkd with hkd | ⟨hkd, h3⟩ | hkd
  ·rw [if_neg (by omega), if_neg (by omega)]
   simp only [List.length_append, List.length_singleton]
   omega
  ·rw [if_pos hkd]
   have hr := reach_good ok (s := ⟨s.E, s.R ++ [fr]⟩) (acc := 0) hT hG hdf.1 hdf.2 rfl
   have he := enter_good ok (lv0 := lv) (fr0 := fr) (lv := lv + 1) (by omega) (by omega) hr.1 hr.2.1 (fun h => ⟨(hr.2.2.2 h).1, (hr.2.2.2 h).2.1⟩) rfl
   have hrl := hr.2.2.1
   rw [← he.2.2.1] at hrl
   generalize enterK k.a k.pg lv fr (lv + 1) (reachL k.a ⟨s.E, s.R ++ [fr]⟩ d.f 0) = q at *
   simp only [List.length_append, List.length_singleton] at hrl
   unfold followK
   split
   ·simp only
    omega
   ·rename_i hq
    have h4 := he.2.2.2 (Decidable.not_not.1 hq)
    have := follow_len ok n q.1.2.1 q.1.2.2 q.2 (by rw [h4.1]; omega) (by rw [h4.1]; omega) he.1 he.2.1
    omega
  ·rw [if_neg (by omega), if_pos hkd]
   unfold passL
   have ht := htin hkd
   have hr := (reach_good ok (s := ⟨s.E, s.R ++ [fr]⟩) (mid := d.f + k.pg % cov lv) (acc := k.acc) hT hG (by omega) ht rfl).2.2.1
   generalize reachL k.a ⟨s.E, s.R ++ [fr]⟩ (d.f + k.pg % cov lv) k.acc = q at *
   simp only [List.length_append, List.length_singleton] at hr
   simp only
   split
   ·simp only [List.length_append, List.length_singleton]
    omega
   ·unfold landK
    split
    ·simp only
     omega
    ·simp only
     omega
theorem end_len {k : TrC} (ok : TrOk k) {Ds : List Inv} {Es : List Ety} {Rs : List Int} (hT : mayT Es Ds = true) (hG : GoodE k.l Es) : (endL k.a k.on1 k.pg k.acc ⟨Es, Rs⟩).2.R.length ≤ Rs.length + 100 := by
 unfold endL
 split
 ·have hr := (reach_good ok (s := ⟨Es, Rs⟩) (acc := k.acc) hT hG ok.p0 ok.p1 rfl).2.2.1
  simp only at hr
  unfold landK
  split
  ·simp only
   omega
  ·simp only
   omega
 ·split
  ·simp only
   omega
  ·have hb := begin_good ok (Rs := Rs) hT hG rfl
   have key : (followB k.a k.pg k.acc (beginL k.a k.pg ⟨Es, Rs⟩)).2.R.length ≤ Rs.length + 100 := by
    unfold followB
    generalize beginL k.a k.pg ⟨Es, Rs⟩ = q at *
    have h1 := hb.2.2.1
    unfold followK
    split
    ·simp only
     omega
    ·rename_i hq
     have h4 := hb.2.2.2 (Decidable.not_not.1 hq)
     have := follow_len ok (4 - q.1.2.1).toNat q.1.2.1 q.1.2.2 q.2 (by omega) h4.1 hb.1 hb.2.1
     omega
   unfold fillK
   simp only
   split
   ·exact key
   ·exact key
theorem page_len {k : TrC} {Es : List Ety} {Ds : List Inv} (h : mayB14 k Es Ds = true) (hlc : k.l ≤ k.c) {z : AcR} (hz : pageA k.a k.on1 Es k.pg k.acc k.pd = z) : z.2.E.length ≤ 8 ∧ z.2.R.length ≤ 1000 := by
 subst hz
 refine ⟨(mayT_len (page_may h hlc)).1, ?_⟩
 obtain ⟨ok, hT, hG⟩ := mayB_ok h hlc
 rw [← end_eq k.a k.on1 Es k.pg k.acc k.pd ok.t0 ok.o0 ok.p0 (okE_of hT hG)]
 have := end_len ok (Rs := []) (mayT_dropA hT k.pd) ((okE_of hT hG).drop k.pd).1
 simp only [List.length_nil] at this
 omega
theorem lnum14_any (n : Int) (w : World) : Calls Tryz.prog 13 #[.int .i64 n] w fun e w' => e = .returned (.int .i64 n) ∧ Below w.heap.size w w' := by
 exact calls_ex mixedT [] (.fin [] (fun _ => .int .i64 n) []) Tryz.func13 rfl (Fits.nil w) (fun _ _ h _ => ⟨rfl, h.below⟩) rfl (fun _ => by kernel_rfl)
theorem weight14_any (f g : Option Addr) (l c m d : Nat) (w : World) (hl : l ≤ 1000000000000000) (hm : m ≤ 1000000000000000) : Calls Tryz.prog 26 #[.agg #[.slice f l c, .slice g m d]] w fun e w' => e = .returned (.int .i64 ((l : Int) + (m : Int))) ∧ Below w.heap.size w w' := by
 have hw : IntKind.i64.wrap ((l : Int) + (m : Int)) = (l : Int) + (m : Int) := IntWalk.i64_in _ (by omega)
 exact calls_ex mixedT [] (.r 1 [a1 1 0 0, a1 4 0 1, (6, .rw (fun _ => .int .i64 (IntKind.i64.wrap (l + m))) (fun _ => .int .i64 ((l : Int) + (m : Int))))] (.fin [] (fun _ => .int .i64 ((l : Int) + (m : Int))) [])) Tryz.func26 rfl (Fits.nil w) (⟨fun _ => by rw [hw], fun _ _ h _ => ⟨rfl, h.below⟩⟩) rfl (fun _ => by kernel_rfl)
theorem heavy14_any (q : Q14) (w0 w : World) (ok : Ok14 w0 q) : Calls Tryz.prog 9 #[.agg (q14C q).toArray] w fun e w' => e = .returned (.bool (heavy14 q)) ∧ Below w.heap.size w w' := by
 obtain ⟨q0, hq0⟩ : ∃ b, (heavy5 q.l q.G.length) = b := ⟨_, rfl⟩
 obtain ⟨q1, hq1⟩ : ∃ b, (decide ((((q.E.length : Int) + (q.D.length : Int)) : Int) > 200)) = b := ⟨_, rfl⟩
 obtain ⟨q2, hq2⟩ : ∃ b, (decide ((q.P.length : Int) > 200)) = b := ⟨_, rfl⟩
 exact calls_ex mixedT [] (.r 1 [aN 2 0 0 3, (3, .call 25 (fun _ => [.agg #[.slice q.f q.l q.c, .int .i64 q.fr, .slice q.fG q.G.length q.cG]]) (fun _ => .bool q0)), aN 6 0 10 2, (7, .call 26 (fun _ => [.agg #[.slice q.fE q.E.length q.cE, .slice q.fD q.D.length q.cD]]) (fun _ => .int .i64 ((q.E.length : Int) + (q.D.length : Int)))), (8, .rw (fun _ => .bool (decide ((((q.E.length : Int) + (q.D.length : Int)) : Int) > 200))) (fun _ => .bool q1)), a1 12 0 12, (14, .rw (fun _ => .bool (decide ((q.P.length : Int) > 200))) (fun _ => .bool q2))] (.fin [] (fun _ => .bool ((q0 || q1) || q2)) [])) Tryz.func9 rfl (Fits.nil w) (⟨fun _ W _ => (heavy5_any q.f q.fG q.l q.c q.G.length q.cG q.fr W ok.l1 ok.G1).mono fun _ _ hJ => ⟨hJ.1.trans (by rw [hq0]), hJ.2⟩, fun _ W _ => weight14_any q.fE q.fD _ q.cE _ q.cD W ok.E1 ok.D1, fun _ => congrArg Value.bool hq1, fun _ => congrArg Value.bool hq2, fun _ _ h _ => ⟨ret_bool (by subst hq0 hq1 hq2; rfl), h.below⟩⟩) rfl (fun _ => by cases q0; (cases q1 <;> kernel_rfl); (kernel_rfl))
theorem may14_any (k : TrC) (fE fD : Option Addr) (cE cD : Nat) (Es : List Ety) (Ds : List Inv) (w : World) (hE : RowsAt KE w fE Es) (hD : RowsAt KI w fD Ds) (hls : Es.length ≤ 90000) (hms : Ds.length ≤ 90000) (hml : k.l ≤ 1000000000000000) : Calls Tryz.prog 12 #[.agg #[.slice k.f k.l k.c], .agg #[.slice fE Es.length cE, .slice fD Ds.length cD], .agg #[.bool k.on1, .int .i64 k.of1, .int .i64 k.tg1], .agg #[.bool k.on2, .int .i64 k.tf, .int .i64 k.tg], .int .i64 k.pg, .int .i64 k.acc] w fun e w' => e = .returned (.bool (mayB14 k Es Ds)) ∧ Below w.heap.size w w' := by
 obtain ⟨q0, hq0⟩ : ∃ b, (okM k.l) = b := ⟨_, rfl⟩
 obtain ⟨q1, hq1⟩ : ∃ b, (mayT Es Ds) = b := ⟨_, rfl⟩
 obtain ⟨q2, hq2⟩ : ∃ b, (rootB k.of1 k.tg1 && (rootB k.tf k.tg && k.on2)) = b := ⟨_, rfl⟩
 obtain ⟨q3, hq3⟩ : ∃ b, (numB k.pg 4095) = b := ⟨_, rfl⟩
 obtain ⟨q4, hq4⟩ : ∃ b, (numB k.acc 2) = b := ⟨_, rfl⟩
 obtain ⟨q5, hq5⟩ : ∃ b, (heldB ((k.l : Int) / 8) Es) = b := ⟨_, rfl⟩
 exact calls_ex mixedT [] (.r 1 [a1 0 0 0, (1, .call 19 (fun _ => [.agg #[.slice k.f k.l k.c]]) (fun _ => .bool q0)), aN 3 1 0 2, (4, .call 23 (fun _ => [.agg #[.slice fE Es.length cE, .slice fD Ds.length cD]]) (fun _ => .bool q1)), aN 7 2 0 3, aN 8 3 0 3, (9, .call 20 (fun _ => [.agg #[.bool k.on1, .int .i64 k.of1, .int .i64 k.tg1], .agg #[.bool k.on2, .int .i64 k.tf, .int .i64 k.tg]]) (fun _ => .bool q2)), (13, .call 32 (fun _ => [.int .i64 k.pg]) (fun _ => .bool q3)), (17, .call 33 (fun _ => [.int .i64 k.acc]) (fun _ => .bool q4)), a1 20 0 0, aN 21 1 0 2, (22, .call 34 (fun _ => [.agg #[.slice k.f k.l k.c], .agg #[.slice fE Es.length cE, .slice fD Ds.length cD]]) (fun _ => .bool q5))] (.fin [] (fun _ => .bool (((((q0 && q1) && q2) && q3) && q4) && q5)) [])) Tryz.func12 rfl (Fits.nil w) (⟨fun _ W _ => (rmemB k.f k.l k.c W).mono fun _ _ hJ => ⟨hJ.1.trans (by rw [hq0]), hJ.2⟩, fun _ W hk => (mayT_any fE fD _ cE _ cD Es Ds W (hE.below hk.below) rfl (hD.below hk.below) rfl (by omega) (by omega)).mono fun _ _ hJ => ⟨hJ.1.trans (by rw [hq1]), hJ.2⟩, fun _ W _ => (who_any k.on1 k.of1 k.tg1 k.on2 k.tf k.tg W).mono fun _ _ hJ => ⟨hJ.1.trans (by rw [hq2]), hJ.2⟩, fun _ W _ => (below_same (page_any k.pg W)).mono fun _ _ hJ => ⟨hJ.1.trans (by rw [hq3]), hJ.2⟩, fun _ W _ => (below_same (acc_any k.acc W)).mono fun _ _ hJ => ⟨hJ.1.trans (by rw [hq4]), hJ.2⟩, fun _ W hk => (held_any k.f fE fD k.l k.c _ cE _ cD Es W hml (hE.below hk.below) rfl (by omega)).mono fun _ _ hJ => ⟨hJ.1.trans (by rw [hq5]), hJ.2⟩, fun _ _ h _ => ⟨ret_bool (by subst hq0 hq1 hq2 hq3 hq4 hq5; unfold mayB14 mayC14 rootB; cases okM k.l <;> cases mayT Es Ds <;> cases numB k.of1 4095 <;> cases numB k.tg1 15 <;> cases numB k.tf 4095 <;> cases numB k.tg 15 <;> cases k.on2 <;> cases numB k.pg 4095 <;> cases numB k.acc 2 <;> (first | rfl | (cases heldB ((k.l : Int) / 8) Es <;> rfl))), h.below⟩⟩) rfl (fun _ => by cases q0; (kernel_rfl); (cases q1; (kernel_rfl); (cases q2; (kernel_rfl); (cases q3; (kernel_rfl); (cases q4 <;> kernel_rfl)))))
theorem flt_eqs (x : Flt) (W : World) : (binOp .eql 44 (fltV x) (fltV x)).run Tryz.prog W = .ok (.bool true) W := by
 have := eql_flt x.k x.st x.lv x.w x.p x.k x.st x.lv x.w x.p W
 rw [eqF_self] at this
 exact this
theorem flt_nes (x : Flt) (W : World) : (binOp .neq 44 (fltV x) (fltV x)).run Tryz.prog W = .ok (.bool false) W := by
 have := neq_flt x.k x.st x.lv x.w x.p x.k x.st x.lv x.w x.p W
 rw [eqF_self] at this
 exact this
theorem rows_one {Q : Type} {K : RowK Q} {w : World} {b : Nat} {q : Q} {cs : Array Value} {t : TypeId} (h : w.heap[b]? = some (.cells cs t)) (hc : cs.toList = (K.V q).toList) : RowsAt K w (some ⟨b, 0, none⟩) [q] := by
 have h : BoxAt w b cs t := ⟨h⟩
 intro j x hj
 match j with
 | 0 =>
  simp only [List.getElem?_cons_zero, Option.some.injEq] at hj
  subst hj
  refine ⟨b, 0, rfl, ⟨h.lt, fun i hi => ?_⟩⟩
  have := h.cell i
  simp only [Nat.zero_mul, Nat.zero_add]
  rw [this, ← Array.getElem?_toList, hc, Array.getElem?_toList]
 | j + 1 => simp at hj
theorem wakes14_any (w : World) : Calls Tryz.prog 18 #[] w fun e w' => e = .returned (.bool true) ∧ Below w.heap.size w w' := by
 exact calls_ex mixedT [] (.r 1 [(0, .opc (.makeSlice 22 (.const (.int .i64 16)) (.const (.int .i64 16))) (fun _ => [.int .i64 16, .int .i64 16]) (fun E => .slice (E.f 0) 16 (E.b 0)) [] [] 0 [fun E => ZeroW 16 (E.f 0) (E.b 0)]), a1 3 1 0] (.r 2 [aN 5 3 0 2] (.r 3 [a1 0 1 0, aN 1 3 0 2, (5, .callg 11 (fun E => [.agg #[.slice (E.f 0) 16 (E.b 0)], .agg #[.slice (some ⟨E.b 2, 0, none⟩) 1 1, .slice none 0 0], .agg #[.bool false, .int .i64 0, .int .i64 0], .agg #[.bool true, .int .i64 0, .int .i64 0], .int .i64 7, .int .i64 0, .agg #[.int .i64 0, .bool false, .bool false, .bool false, .int .i64 (-1), .bool true]]) (fun E => .tuple #[.int .i64 1, fltV flt0, .agg #[.slice (E.f 4) 1 (E.b 4), .slice (E.f 5) 0 (E.b 5)], .slice (E.f 6) 0 (E.b 6), .int .i64 0]) [(0, (fun E => ⟨0, 0, 0, [], .fact ((E.f 0).map (·.block)) (ZeroW 16 (E.f 0) (E.b 0))⟩)), (2, (fun E => ⟨E.b 2, 0, 89, [.int .i64 2, .int .i64 0, .int .i64 0, .bool true, .int .i64 7, .int .i64 0, .int .i64 1, .int .i64 0, .bool true, .bool false, .bool false, .bool false, .bool false, .int .i64 0], .own⟩))] [] 4 [fun E => OwnP KE.t 14 (E.f 4) ([⟨2, 0, 0, true, 7, 0, 1, 0, ⟨true, false, false, false, false, 0⟩⟩].length) (E.b 4) (rcells KE [⟨2, 0, 0, true, 7, 0, 1, 0, ⟨true, false, false, false, false, 0⟩⟩]), fun E => OwnP KI.t 4 (E.f 5) ([] : List Inv).length (E.b 5) (rcells KI ([] : List Inv)), fun E => OwnP 3 1 (E.f 6) ([] : List Int).length (E.b 6) (icells ([] : List Int))]), aN 15 7 0 5, aN 16 8 0 2] (.r 4 [(1, .call 13 (fun _ => [.int .i64 0]) (fun _ => .int .i64 0)), aN 4 7 0 5, (6, .opc (.binOp .eql 44 (.tmp 30) (.tmp 31) 44) (fun _ => [fltV flt0, fltV flt0]) (fun _ => .bool true) [] [] 0 [])] (.fin [] (fun _ => .bool true) []))))) Tryz.func18 rfl (Fits.nil w) (⟨fun E W ρ o ho hx hk _ => mk_opc (n := 16) ho hx hk (by decide) (by decide), fun E W hk hp => (apage_yes (⟨E.f 0, 16, E.b 0, fun _ => 0#64, false, 0, 0, true, 0, 0, 0, false, false, false, -1, true, 7, 0⟩ : TrC) (some ⟨E.b 2, 0, none⟩) none 1 0 [⟨2, 0, 0, true, 7, 0, 1, 0, ⟨true, false, false, false, false, 0⟩⟩] [] W (rows_one (hp.1 _ (List.mem_cons_of_mem _ (List.mem_singleton.2 rfl))).2.2 rfl) (RowsAt.nil _ _) (by decide) (by decide) (by decide) (by decide) (fun h => nomatch h) (fun _ => rfl) (hp.1 _ (List.mem_cons_self ..)).2.2.1.2 (Nat.le_of_eq (show E.b 0 = 16 from (hp.1 _ (List.mem_cons_self ..)).2.2.1.1).symm) (by kernel_rfl) (z := ((1, flt0), ⟨[⟨2, 0, 0, true, 7, 0, 1, 0, ⟨true, false, false, false, false, 0⟩⟩], []⟩)) (by kernel_rfl)).mono fun e w' h => page_post hk hp.1 h, fun _ W _ => lnum14_any _ W, fun _ W _ _ ho hx hk _ => opc_self ho hx hk (by kernel_rfl) (flt_eqs flt0 W), fun _ _ h _ => ⟨rfl, h.below⟩⟩) rfl (fun _ => by kernel_rfl)
end Go.Proofs.YtmelepohdbojlaaGreat
