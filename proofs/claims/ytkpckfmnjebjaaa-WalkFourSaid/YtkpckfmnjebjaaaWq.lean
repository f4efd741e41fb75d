/- Package walk's trips: contracts of what goes through a pointer. -/
import Derived.Test.YtkpckfmnjebjaaaWp
namespace Go.Proofs.Ytkpckfmnjebjaaa
open Go.ChangeShapes Go.WideShapes Go.ChangeAt Go.RowKit Go.Deep

/-- What a call leaves alone that writes one block of its caller's and makes memory. -/
structure Kept (tb B : Nat) (w w' : World) : Prop where
  below : Below tb w w'
  block : ∀ k, k < B → k ≠ tb → w'.heap[k]? = w.heap[k]?
theorem Kept.of {tb B : Nat} {w w' : World} (h : Below B w w') (hb : tb ≤ B) : Kept tb B w w' := ⟨h.mono hb, fun k hk _ => h.block k hk⟩
theorem Kept.trans {tb B : Nat} {a b c : World} (h : Kept tb B a b) (k : Kept tb B b c) : Kept tb B a c :=
  ⟨h.below.trans k.below, fun i hi hn => (k.block i hi hn).trans (h.block i hi hn)⟩
theorem Kept.mono {tb B B' : Nat} {a b : World} (h : Kept tb B a b) (hb : B' ≤ B) : Kept tb B' a b := ⟨h.below, fun i hi hn => h.block i (by omega) hn⟩
theorem Kept.step {tb B : Nat} {a b c : World} (h : Kept tb B a b) (k : Below b.heap.size b c) (hb : B ≤ b.heap.size) (ht : tb ≤ b.heap.size) : Kept tb B a c :=
  ⟨h.below.trans (k.mono ht), fun i hi hn => (k.block i (by omega)).trans (h.block i hi hn)⟩
theorem Kept.set {tb B : Nat} {a b : World} (h : Kept tb B a b) (o : Nat) (v : Value) : Kept tb B a (b.setCell ⟨tb, o, none⟩ v) :=
  ⟨h.below.setCell (Nat.le_refl _) v, fun i hi hn => (Below.heap_setCell b ⟨tb, o, none⟩ v i hn).trans (h.block i hi hn)⟩
theorem Kept.high {tb B : Nat} {a b : World} (h : Kept tb B a b) (p : Addr) (v : Value) (hB : B ≤ p.block) (ht : tb ≤ p.block) : Kept tb B a (b.setCell p v) :=
  ⟨h.below.setCell ht v, fun i hi hn => (Below.heap_setCell b p v i (by omega)).trans (h.block i hi hn)⟩
theorem Kept.box {tb B : Nat} {a b : World} (h : Kept tb B a b) {k : Nat} {cs : Array Value} {t : TypeId} (hx : BoxAt a k cs t) (hk : k < B) (hn : k ≠ tb) : BoxAt b k cs t := ⟨(h.block k hk hn).trans hx.h⟩
theorem Kept.under {tb B b0 : Nat} {w0 a b : World} (h : Kept tb B a b) (hx : Below b0 w0 a) (hb : b0 ≤ tb) : Below b0 w0 b := hx.trans (h.below.mono hb)
theorem BoxAt.grown {w w' : World} {b : Nat} {cs : Array Value} {t : TypeId} {row : Option Nat} (h : BoxAt w b cs t) (hg : w.grownBy w' row) (hr : row ≠ some b) : BoxAt w' b cs t :=
  ⟨(hg.block b h.lt (fun e => hr e.symm)).trans h.h⟩
theorem OwnI.ne_box {w : World} {base b : Nat} {v : Value} {L : List Int} {cs : Array Value} {t : TypeId} (h : OwnI w base v L) (hx : BoxAt w b cs t) (ht : t ≠ 3) : v.ownBlock ≠ some b := by
  rcases h.2 with hn | ⟨g, cap, cur, rfl, hbg, hgg, rest⟩
  · rw [hn.1]; simp [Value.ownBlock]
  · intro he
    have he : g = b := by simpa [Value.ownBlock] using he
    subst he
    have h2 := hgg.symm.trans hx.h
    simp at h2
    exact ht h2.2.symm
theorem OwnI.otherN {w : World} {base : Nat} {v : Value} {L : List Int} (h : OwnI w base v L) (p : Addr) (y : Value) (hb : v.ownBlock ≠ some p.block) : OwnI (w.setCell p y) base v L := by
  refine ⟨h.1, ?_⟩
  rcases h.2 with hn | ⟨g, cap, cur, rfl, hbg, hgg, rest⟩
  · exact .inl hn
  · refine .inr ⟨g, cap, cur, rfl, hbg, (Below.heap_setCell w p y g ?_).trans hgg, rest⟩
    rintro rfl
    exact hb rfl
/-- 'append(s, x)' of one number, in a region that draws its order. -/
theorem step_pushI {w : World} {ops : Array Oper} {o : Oper} {a : Act} {K : Act → World → Prop} {Q : Exit → Act → World → Prop} {E : Prop} (hgd : o.guard = none) (s x : Operand)
    (ho : o.op = .call { callee := .builtin .append, args := #[s, x], argTypes := #[25, 25] })
    (base : Nat) (v : Value) (L : List Int) (hs : a.eval s = v) (hown : OwnI w base v L)
    (b c : Nat) (y : Int) (hx : a.eval x = .slice (some ⟨b, 0, none⟩) 1 c) (hy : w.cell? ⟨b, 0, none⟩ = some (.int .i64 y)) (hk : L.length ≤ 100000) (hbase : base ≤ w.heap.size)
    (h : ∀ f' c' w', OwnI w' base (.slice f' (L.length + 1) c') (L ++ [y]) → w.grownBy w' v.ownBlock → K (a.put o.dst (.slice f' (L.length + 1) c')) w') : if Region.wanted o (yielded ops a.tmps) = true then Oper.wp Try.prog o a w K Q else E := by
  have hw : Region.wanted o (yielded ops a.tmps) = true := by simp [Region.wanted, hgd]
  rw [if_pos hw]
  obtain ⟨i0, hi, hz0, hz1, hz2⟩ := info_parts infoI
  refine wp_append_own _ s x 25 ho base 3 i0 _ 1 8 Try.underlying25 hi hz0 hz1 hz2 rfl (by decide) _ L.length (icells L) hs hown _ 1 c [.int .i64 y] hx rfl ?_ (by simp; rfl)
    (by unfold maxLen; omega) (by omega) hbase ?_
  · intro t v hv
    match t, hv with
    | 0, hv => simp at hv; subst hv; exact hy
    | t + 1, hv => simp at hv
  · intro v' w' hown' hgrow _
    have hO : OwnI w' base v' (L ++ [y]) := by
      unfold OwnI
      rw [icells_append, List.length_append]
      exact hown'
    obtain ⟨f', c', rfl, _⟩ := hO.form
    have e1 : (L ++ [y]).length = L.length + 1 := by simp
    rw [e1] at hO ⊢
    exact h f' c' w' hO hgrow
theorem goTo_any (f : Option Addr) (l c : Nat) (st lv pg fr nx : Int) (rd : Value) (tb : Nat) (w : World) (hT : BoxAt w tb #[.slice f l c, .int .i64 st, .int .i64 lv, .int .i64 pg, .int .i64 fr, rd] 66) (h0 : 0 ≤ lv) (h1 : lv ≤ 3) :
    Calls Try.prog 41 #[.pointer (some ⟨tb, 0, none⟩), .int .i64 nx] w fun e w' => e = .returned (.tuple #[]) ∧ w' = (w.setCell ⟨tb, 2, none⟩ (.int .i64 (lv + 1))).setCell ⟨tb, 4, none⟩ (.int .i64 nx) := by
  have i1 : IntKind.i64.wrap (lv + 1) = lv + 1 := IntWalk.i64_in _ (by omega)
  have c2 := hT.get 2 (.int .i64 lv) rfl
  have c4 := hT.get 4 (.int .i64 fr) rfl
  have z2 := hT.free 2
  have z4 := hT.free 4
  clear hT
  go_enter Try.func41, Try.ntmps41
  go_wp2
  go_end0
  exact ⟨rfl, rfl⟩
theorem mayBegin_any (f : Option Addr) (l c : Nat) (st lv pg fr : Int) (rd : Value) (tb : Nat) (w : World) (hT : BoxAt w tb #[.slice f l c, .int .i64 st, .int .i64 lv, .int .i64 pg, .int .i64 fr, rd] 66) :
    Calls Try.prog 27 #[.pointer (some ⟨tb, 0, none⟩)] w fun e w' => e = .returned (.bool (tblMay l st lv pg && numB fr 4095)) ∧ Below w.heap.size w w' := by
  have HM := Lib.hid (fun W => tableMay_any f l c st lv pg fr W)
  have T0 := Lib.hid hT
  have c0 := hT.get 0 (.slice f l c) rfl
  have c1 := hT.get 1 (.int .i64 st) rfl
  have c2 := hT.get 2 (.int .i64 lv) rfl
  have c3 := hT.get 3 (.int .i64 pg) rfl
  have c4 := hT.get 4 (.int .i64 fr) rfl
  clear hT
  have hn : numB fr 4095 = (decide (0 ≤ fr) && decide (fr ≤ 4095)) := by simp [numB]
  rw [hn]
  clear hn
  cases hm : tblMay l st lv pg
  · rw [hm] at HM
    clear hm
    go_enter Try.func27, Try.ntmps27
    go_wp2_with fail
    refine (HM.out _).mono ?_
    rintro e w1 ⟨rfl, hb1⟩
    have B1 := Lib.hid hb1
    clear hb1 c0 c1 c2 c3 c4
    go_wp2
    go_ret
    exact ⟨rfl, B1.out⟩
  · rw [hm] at HM
    clear hm
    cases d0 : decide (0 ≤ fr)
    all_goals
      go_enter Try.func27, Try.ntmps27
      go_wp2_with fail
      refine (HM.out _).mono ?_
      rintro e w1 ⟨rfl, hb1⟩
      have T1 := T0.out.below hb1
      have B1 := Lib.hid hb1
      clear hb1 c0 c1 c2 c3 c4
      have c4 := T1.get 4 (.int .i64 fr) rfl
      clear T1
      go_wp2
      go_ret
      exact ⟨by first | rfl | simp, B1.out⟩
/-- What a look leaves. -/
def LookEnd (tb B : Nat) (f : Option Addr) (l c : Nat) (st lv pg fr : Int) (d : Dsc) (R : List Int) (w : World) (e : Ending) (w' : World) : Prop :=
  ∃ f2 c2, e = .returned (dscV d) ∧ BoxAt w' tb #[.slice f l c, .int .i64 st, .int .i64 lv, .int .i64 pg, .int .i64 fr, .slice f2 (R.length + 1) c2] 66 ∧ OwnI w' B (.slice f2 (R.length + 1) c2) (R ++ [fr]) ∧ Kept tb B w w'
set_option maxRecDepth 100000 in
set_option maxHeartbeats 1600000 in
theorem look_any (f : Option Addr) (l c : Nat) (X : Nat → BitVec 64) (st lv pg fr : Int) (f' : Option Addr) (c' : Nat) (R : List Int) (tb B : Nat) (w0 w : World) (hX : WordsAt w0 f l X) (hM : okM l = true) (hp : placeB st lv = true) (p0 : 0 ≤ pg) (p1 : pg ≤ 4095) (f0 : 0 ≤ fr) (f1 : fr < (l : Int) / 8)
    (hB0 : Below w0.heap.size w0 w) (h0 : w0.heap.size ≤ tb) (hT : BoxAt w tb #[.slice f l c, .int .i64 st, .int .i64 lv, .int .i64 pg, .int .i64 fr, .slice f' R.length c'] 66) (hBw : B ≤ w.heap.size) (htB : tb < B) (hO : OwnI w B (.slice f' R.length c') R) (hk : R.length ≤ 100) :
    Calls Try.prog 40 #[.pointer (some ⟨tb, 0, none⟩)] w (LookEnd tb B f l c st lv pg fr (tblD X st lv fr pg) R w) := by
  have HD := Lib.hid (fun W (hW : WordsAt W f l X) => desc_table f l c X st lv pg fr W hW hM hp p0 p1 f0 f1)
  generalize tblD X st lv fr pg = d at *
  clear hM hp p0 p1 f0 f1
  have HX := Lib.hid hX
  have D0 := Lib.hid (BoxAt.new w #[.int .i64 0, .int .i64 0, .bool false, .bool false, .bool false, .bool false, .bool false, .int .i64 0, .int .i64 0] 33)
  have T0 := Lib.hid (hT.alloc (.cells #[.int .i64 0, .int .i64 0, .bool false, .bool false, .bool false, .bool false, .bool false, .int .i64 0, .int .i64 0] 33))
  have O0 := Lib.hid (hO.alloc (.cells #[.int .i64 0, .int .i64 0, .bool false, .bool false, .bool false, .bool false, .bool false, .int .i64 0, .int .i64 0] 33))
  have K0 := Lib.hid (Kept.of ((Below.refl B w).alloc hBw (.cells #[.int .i64 0, .int .i64 0, .bool false, .bool false, .bool false, .bool false, .bool false, .int .i64 0, .int .i64 0] 33)) (show tb ≤ B by omega))
  have hbo : (Value.slice f' R.length c').ownBlock ≠ some w.heap.size := by
    intro he
    have := hO.blt _ he
    omega
  have hbt : (Value.slice f' R.length c').ownBlock ≠ some tb := by
    intro he
    have := hO.blk _ he
    omega
  have HBO := Lib.hid hbo
  have HBT := Lib.hid hbt
  have HB0 := Lib.hid hB0
  clear hX hT hO hbo hbt hB0
  go_enter Try.func40, Try.ntmps40
  go_upto_region 1 with fail
  obtain ⟨G, hG⟩ : ∃ G, G = w.heap.size := ⟨_, rfl⟩
  obtain ⟨W0, hW0⟩ : ∃ W0, W0 = w.alloc (.cells #[.int .i64 0, .int .i64 0, .bool false, .bool false, .bool false, .bool false, .bool false, .int .i64 0, .int .i64 0] 33) := ⟨_, rfl⟩
  have hsz : W0.heap.size = G + 1 := by rw [hW0, hG]; simp
  rw [← hW0] at D0 T0 O0 K0 ⊢
  rw [← hG] at D0 HBO hBw ⊢
  clear hW0 hG
  refine wp_region_late 14 (fun w' => BoxAt w' tb #[.slice f l c, .int .i64 st, .int .i64 lv, .int .i64 pg, .int .i64 fr, .slice f' R.length c'] 66) (by kernel_rfl) ?_
  have hS := T0.out.drew
  refine late_take 0 (oi := ⟨some 3, _, _, _, _, _⟩) (v := ?_) rfl (by kernel_rfl) (by kernel_rfl) (by kernel_rfl) (by kernel_rfl) (fun _ _ _ h => h) hS (Or.inl ⟨by rfl, ?_⟩) ?_
  rotate_left
  · (intro w' hSw; have s4 := hSw.get 4 (.int .i64 fr) rfl; have s5 := hSw.get 5 (.slice f' R.length c') rfl; clear hSw; go_simp; try with_reducible rfl)
  simp only [Act.put, List.setIfInBounds_toArray, List.set_cons_zero, List.set_cons_succ]
  refine late_take 1 (oi := ⟨some 4, _, _, _, _, _⟩) (v := ?_) rfl (by kernel_rfl) (by kernel_rfl) (by kernel_rfl) (by kernel_rfl) (fun _ _ _ h => h) hS (Or.inl ⟨by rfl, ?_⟩) ?_
  rotate_left
  · (intro w' hSw; have s4 := hSw.get 4 (.int .i64 fr) rfl; have s5 := hSw.get 5 (.slice f' R.length c') rfl; clear hSw; go_simp; try with_reducible rfl)
  simp only [Act.put, List.setIfInBounds_toArray, List.set_cons_zero, List.set_cons_succ]
  refine late_take 2 (oi := ⟨some 5, _, _, _, _, _⟩) (v := ?_) rfl (by kernel_rfl) (by kernel_rfl) (by kernel_rfl) (by kernel_rfl) (fun _ _ _ h => h) hS (Or.inl ⟨by rfl, ?_⟩) ?_
  rotate_left
  · (intro w' hSw; have s4 := hSw.get 4 (.int .i64 fr) rfl; have s5 := hSw.get 5 (.slice f' R.length c') rfl; clear hSw; go_simp; try with_reducible rfl)
  simp only [Act.put, List.setIfInBounds_toArray, List.set_cons_zero, List.set_cons_succ]
  refine late_take 3 (oi := ⟨some 6, _, _, _, _, _⟩) (v := ?_) rfl (by kernel_rfl) (by kernel_rfl) (by kernel_rfl) (by kernel_rfl) (fun _ _ _ h => h) hS (Or.inl ⟨by rfl, ?_⟩) ?_
  rotate_left
  · (intro w' hSw; have s4 := hSw.get 4 (.int .i64 fr) rfl; have s5 := hSw.get 5 (.slice f' R.length c') rfl; clear hSw; go_simp; try with_reducible rfl)
  simp only [Act.put, List.setIfInBounds_toArray, List.set_cons_zero, List.set_cons_succ]
  refine late_take 4 (oi := ⟨some 7, _, _, _, _, _⟩) (v := ?_) rfl (by kernel_rfl) (by kernel_rfl) (by kernel_rfl) (by kernel_rfl) (fun _ _ _ h => h) hS (Or.inl ⟨by rfl, ?_⟩) ?_
  rotate_left
  · (intro w' hSw; have s4 := hSw.get 4 (.int .i64 fr) rfl; have s5 := hSw.get 5 (.slice f' R.length c') rfl; clear hSw; go_simp; try with_reducible rfl)
  simp only [Act.put, List.setIfInBounds_toArray, List.set_cons_zero, List.set_cons_succ]
  refine late_take 5 (oi := ⟨some 8, _, _, _, _, _⟩) (v := ?_) rfl (by kernel_rfl) (by kernel_rfl) (by kernel_rfl) (by kernel_rfl) (fun _ _ _ h => h) hS (Or.inl ⟨by rfl, ?_⟩) ?_
  rotate_left
  · (intro w' hSw; have s4 := hSw.get 4 (.int .i64 fr) rfl; have s5 := hSw.get 5 (.slice f' R.length c') rfl; clear hSw; go_simp; try with_reducible rfl)
  simp only [Act.put, List.setIfInBounds_toArray, List.set_cons_zero, List.set_cons_succ]
  refine late_take 6 (oi := ⟨some 9, _, _, _, _, _⟩) (v := ?_) rfl (by kernel_rfl) (by kernel_rfl) (by kernel_rfl) (by kernel_rfl) (fun _ _ _ h => h) hS (Or.inl ⟨by rfl, ?_⟩) ?_
  rotate_left
  · (intro w' hSw; have s4 := hSw.get 4 (.int .i64 fr) rfl; have s5 := hSw.get 5 (.slice f' R.length c') rfl; clear hSw; go_simp; try with_reducible rfl)
  simp only [Act.put, List.setIfInBounds_toArray, List.set_cons_zero, List.set_cons_succ]
  refine late_take 7 (oi := ⟨some 10, _, _, _, _, _⟩) (v := ?_) rfl (by kernel_rfl) (by kernel_rfl) (by kernel_rfl) (by kernel_rfl) (fun _ _ _ h => h) hS (Or.inl ⟨by rfl, ?_⟩) ?_
  rotate_left
  · (intro w' hSw; have s4 := hSw.get 4 (.int .i64 fr) rfl; have s5 := hSw.get 5 (.slice f' R.length c') rfl; clear hSw; go_simp; try with_reducible rfl)
  simp only [Act.put, List.setIfInBounds_toArray, List.set_cons_zero, List.set_cons_succ]
  refine late_take 8 (oi := ⟨some 11, _, _, _, _, _⟩) (v := ?_) rfl (by kernel_rfl) (by kernel_rfl) (by kernel_rfl) (by kernel_rfl) (fun _ _ _ h => h) hS (Or.inl ⟨by rfl, ?_⟩) ?_
  rotate_left
  · (intro w' hSw; have s4 := hSw.get 4 (.int .i64 fr) rfl; have s5 := hSw.get 5 (.slice f' R.length c') rfl; clear hSw; go_simp; try with_reducible rfl)
  simp only [Act.put, List.setIfInBounds_toArray, List.set_cons_zero, List.set_cons_succ]
  refine late_take 9 (oi := ⟨some 12, _, _, _, _, _⟩) (v := ?_) rfl (by kernel_rfl) (by kernel_rfl) (by kernel_rfl) (by kernel_rfl) (fun _ _ _ h => h) hS (Or.inl ⟨by rfl, ?_⟩) ?_
  rotate_left
  · (intro w' hSw; have s4 := hSw.get 4 (.int .i64 fr) rfl; have s5 := hSw.get 5 (.slice f' R.length c') rfl; clear hSw; go_simp; try with_reducible rfl)
  simp only [Act.put, List.setIfInBounds_toArray, List.set_cons_zero, List.set_cons_succ]
  refine late_one 10 (o := ⟨some 13, _, _, _, _, _⟩) (by kernel_rfl) rfl (fun K hK => ?_)
  go_simp
  refine hK.out _ _ ?_ (fun hS' => ?_)
  · exact hS.alloc _
  clear hK K hS
  have hS := hS'
  clear hS'
  try simp only [Act.put, List.setIfInBounds_toArray, List.set_cons_zero, List.set_cons_succ]
  have O1 := Lib.hid ((O0.out.alloc (.cells #[.int .i64 fr] 3)).drew)
  have D1 := Lib.hid ((D0.out.alloc (.cells #[.int .i64 fr] 3)).drew)
  have hZ := cell_new W0 #[.int .i64 fr] 3 0
  rw [hsz] at hZ
  have K1 := Lib.hid (K0.out.step (Below.drew (bel_alloc (Below.refl _ _) (.cells #[.int .i64 fr] 3))) (by omega) (by omega))
  refine late_one 11 (o := ⟨some 14, _, _, _, _, _⟩) (by kernel_rfl) rfl (fun K hK => ?_)
  refine step_pushI rfl _ _ rfl B _ R rfl O1.out _ 1 fr rfl hZ (by omega) (by simp; omega) ?_
  intro f2 c2 w2 hO2 hg2
  refine hK.out _ _ ?_ (fun hS' => ?_)
  · exact hS.grown hg2 HBT.out
  have hl2 := hg2.size
  simp at hl2
  have D2 := Lib.hid (D1.out.grown hg2 HBO.out)
  have O2 := Lib.hid hO2
  have K2 := Lib.hid (K1.out.trans (Kept.of ((Below.refl B _).grown hg2 (by simp; omega) O1.out.blk) (by omega)))
  clear hK K hS hZ D1 O1 K1 D0 O0 K0 hg2 hO2
  have hS := hS'
  clear hS'
  try simp only [Act.put, List.setIfInBounds_toArray, List.set_cons_zero, List.set_cons_succ]
  refine late_one 12 (o := ⟨some 15, _, _, _, _, _⟩) (by kernel_rfl) rfl (fun K hK => ?_)
  go_simp
  refine hK.out _ _ hS (fun hS' => ?_)
  clear hK K hS
  have hS := hS'
  clear hS'
  try simp only [Act.put, List.setIfInBounds_toArray, List.set_cons_zero, List.set_cons_succ]
  refine late_one 13 (o := ⟨some 16, _, _, _, _, _⟩) (by kernel_rfl) rfl (fun K hK => ?_)
  go_simp
  refine hK.out _ _ hS (fun hS' => ?_)
  clear hK K hS
  have hS := hS'
  clear hS'
  try simp only [Act.put, List.setIfInBounds_toArray, List.set_cons_zero, List.set_cons_succ]
  refine late_last (by kernel_rfl) (by kernel_rfl) rfl (fun K hK => ?_)
  have z5 := hS.free 5
  have s5 := hS.get 5 (.slice f' R.length c') rfl
  go_simp
  refine hK.out _ _ ?_
  clear hK K s5 z5
  have T3 := Lib.hid (hS.set 5 (.slice f2 (R.length + 1) c2) #[.slice f l c, .int .i64 st, .int .i64 lv, .int .i64 pg, .int .i64 fr, .slice f2 (R.length + 1) c2] rfl)
  have D3 := Lib.hid (D2.out.other ⟨tb, 5, none⟩ (.slice f2 (R.length + 1) c2) (by show G ≠ tb; omega))
  have O3 := Lib.hid (O2.out.otherN ⟨tb, 5, none⟩ (.slice f2 (R.length + 1) c2) (by intro he; have := O2.out.blk _ he; simp at this; omega))
  have K3 := Lib.hid (K2.out.set 5 (.slice f2 (R.length + 1) c2))
  have hl3 : G < (w2.setCell ⟨tb, 5, none⟩ (.slice f2 (R.length + 1) c2)).heap.size := D3.out.lt
  obtain ⟨w3, hw3⟩ : ∃ w3, w3 = w2.setCell ⟨tb, 5, none⟩ (.slice f2 (R.length + 1) c2) := ⟨_, rfl⟩
  rw [← hw3] at T3 D3 O3 K3 hl3 ⊢
  clear hw3 hS D2 O2 K2 T0
  have HW := HX.out.below (K3.out.under HB0.out h0)
  have c0 := T3.out.get 0 (.slice f l c) rfl
  have c1 := T3.out.get 1 (.int .i64 st) rfl
  have c2' := T3.out.get 2 (.int .i64 lv) rfl
  have c3 := T3.out.get 3 (.int .i64 pg) rfl
  have c4 := T3.out.get 4 (.int .i64 fr) rfl
  go_wp2_with fail
  refine (HD.out _ HW).mono ?_
  rintro e w4 ⟨rfl, hb4⟩
  unfold dscV
  have T4 := Lib.hid (T3.out.below hb4)
  have D4 := D3.out.below hb4
  have O4 := Lib.hid (O3.out.below hb4)
  have K4 := Lib.hid (K3.out.step hb4 (by omega) (by omega))
  clear T3 D3 O3 K3 hb4 HW c0 c1 c2' c3 c4
  have hN4 := Lib.hid (O4.out.ne_box D4 (by decide))
  have d0 := D4.get 0 (.int .i64 0) rfl
  have e0 := D4.free 0
  have d1 := D4.get 1 (.int .i64 0) rfl
  have e1 := D4.free 1
  have d2 := D4.get 2 (.bool false) rfl
  have e2 := D4.free 2
  have d3 := D4.get 3 (.bool false) rfl
  have e3 := D4.free 3
  have d4 := D4.get 4 (.bool false) rfl
  have e4 := D4.free 4
  have d5 := D4.get 5 (.bool false) rfl
  have e5 := D4.free 5
  have d6 := D4.get 6 (.bool false) rfl
  have e6 := D4.free 6
  have d7 := D4.get 7 (.int .i64 0) rfl
  have e7 := D4.free 7
  have d8 := D4.get 8 (.int .i64 0) rfl
  have e8 := D4.free 8
  clear D4
  go_wp2
  refine bodyPost_ret (v := .agg #[.int .i64 d.k, .int .i64 d.f, .bool d.r, .bool d.w, .bool d.x, .bool d.a, .bool d.n, .int .i64 d.s, .int .i64 d.o]) (by simp [results, Try.results40, go_sem, d0, d1, d2, d3, d4, d5, d6, d7, d8]) rfl ?_
  refine ⟨f2, c2, rfl, ?_, ?_, ?_⟩
  · repeat' (first | with_reducible exact T4.out | with_reducible refine BoxAt.other ?_ _ _ (by show tb ≠ G; omega))
  · repeat' (first | with_reducible exact O4.out | with_reducible refine OwnI.otherN ?_ _ _ hN4.out)
  · repeat' (first | with_reducible exact K4.out | with_reducible refine Kept.high ?_ _ _ (by show B ≤ G; omega) (by show tb ≤ G; omega))
end Go.Proofs.Ytkpckfmnjebjaaa
