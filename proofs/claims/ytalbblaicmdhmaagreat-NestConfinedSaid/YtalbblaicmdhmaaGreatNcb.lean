/- What a call leaves alone that writes one block of its caller's, rows of the call's own (told by their elements' types), and makes memory. Package nest's floor: stage 2 alone: contracts. Package nest's trip: small calls, look, land, pass: contracts. -/
import Derived.Test.YtalbblaicmdhmaaGreatKp
import Derived.Test.YtalbblaicmdhmaaGreatRow
import Derived.Test.YtalbblaicmdhmaaGreatNe
import Derived.Test.YtalbblaicmdhmaaGreatWu
import Derived.Test.YtalbblaicmdhmaaGreatPc
import Derived.Test.YtalbblaicmdhmaaGreatNw
import Derived.Test.YtalbblaicmdhmaaGreatRh
import Derived.Test.YtalbblaicmdhmaaGreatPn
import Derived.Deep.RegionLawGrows
set_option linter.all false
namespace Go.Proofs.YtalbblaicmdhmaaGreat
section
open Go.ChangeShapes Go.WideShapes Go.ChangeAt Go.RowKit Go.Deep

/-- The block's cells are of none of these types. -/
def NotOf (ow : List TypeId) (w : World) (k : Nat) : Prop := ∀ cs t r, w.heap[k]? = some (.cells cs t r) → t ∉ ow
/-- Block tb may be written, and blocks from B on whose cells are of a type of ow; all others that were there are as they were. -/
structure Kep (tb B : Nat) (ow : List TypeId) (w w' : World) : Prop where
  os : w'.os = w.os
  tape : w'.tape = w.tape
  output : w'.output = w.output
  size : w.heap.size ≤ w'.heap.size
  block : ∀ k, k < w.heap.size → k ≠ tb → (k < B ∨ NotOf ow w k) → w'.heap[k]? = w.heap[k]?
section
variable {tb B : Nat} {ow : List TypeId} {w a b c : World}
theorem NotOf.same {k : Nat} (h : NotOf ow a k) (he : b.heap[k]? = a.heap[k]?) : NotOf ow b k := fun cs t r hc => h cs t r (he.symm.trans hc)
theorem Kep.refl (w : World) : Kep tb B ow w w := ⟨rfl, rfl, rfl, Nat.le_refl _, fun _ _ _ _ => rfl⟩
theorem Kep.trans (h : Kep tb B ow a b) (k : Kep tb B ow b c) : Kep tb B ow a c :=
  ⟨k.os.trans h.os, k.tape.trans h.tape, k.output.trans h.output, Nat.le_trans h.size k.size, fun i hi hn ho =>
    have e := h.block i hi hn ho
    (k.block i (Nat.lt_of_lt_of_le hi h.size) hn (ho.imp id fun x => x.same e)).trans e⟩
theorem Kep.of (h : Below a.heap.size a b) : Kep tb B ow a b := ⟨h.os, h.tape, h.output, h.size, fun k hk _ _ => h.block k hk⟩
theorem Kep.step (h : Kep tb B ow a b) (k : Below b.heap.size b c) : Kep tb B ow a c := h.trans (Kep.of k)
theorem Kep.alloc (h : Kep tb B ow a b) (o : Obj) : Kep tb B ow a (b.alloc o) := h.step (bel_alloc (Below.refl _ _) o)
theorem Kep.drew (h : Kep tb B ow a b) : Kep tb B ow a b.drew := h.step (Below.drew (Below.refl _ _))
theorem Kep.set (h : Kep tb B ow a b) (o : Nat) (v : Value) : Kep tb B ow a (b.setCell ⟨tb, o, none⟩ v) :=
  h.trans ⟨rfl, rfl, rfl, by simp [World.setCell], fun k _ hn _ => Below.heap_setCell b ⟨tb, o, none⟩ v k hn⟩
theorem Kep.put (h : Kep tb B ow a b) (cs : Array Value) : Kep tb B ow a (b.setRow tb cs) :=
  have hb := Below.rowB (Below.refl tb b) (cs := cs) (Nat.le_refl tb)
  h.trans ⟨hb.os, hb.tape, hb.output, hb.size, fun k _ hn _ => setRow_other b tb k cs hn⟩
theorem Kep.high (h : Kep tb B ow a b) (p : Addr) (v : Value) (hp : a.heap.size ≤ p.block) : Kep tb B ow a (b.setCell p v) :=
  ⟨h.os, h.tape, h.output, by simp [World.setCell]; exact h.size, fun k hk hn ho => (Below.heap_setCell b p v k (by omega)).trans (h.block k hk hn ho)⟩
theorem Kep.row (h : Kep tb B ow a b) (g : Nat) (cs : Array Value) (hg : a.heap.size ≤ g) : Kep tb B ow a (b.setRow g cs) :=
  have hb := Below.rowB (Below.refl g b) (cs := cs) (Nat.le_refl g)
  ⟨hb.os.trans h.os, hb.tape.trans h.tape, hb.output.trans h.output, Nat.le_trans h.size hb.size, fun k hk hn ho => (setRow_other b g k cs (by omega)).trans (h.block k hk hn ho)⟩
theorem Kep.grown (h : Kep tb B ow a b) {row : Option Nat} (hg : b.grownBy c row) (hB : ∀ k, row = some k → B ≤ k) (ho : ∀ k, row = some k → ¬ NotOf ow b k) : Kep tb B ow a c :=
  h.trans ⟨hg.os, hg.tape, hg.output, hg.size, fun k hk _ hk2 => hg.block k hk (fun e => by
    rcases hk2 with hk2 | hk2
    · have := hB k e.symm; omega
    · exact ho k e.symm hk2)⟩
theorem OwnI.isOf {base : Nat} {v : Value} {L : List Int} (h : OwnI w base v L) (ho : 3 ∈ ow) : ∀ k, v.ownBlock = some k → ¬ NotOf ow w k := by
  intro k hk hn
  rcases h.2 with hx | ⟨g, cap, cur, rfl, hbg, hgg, rest⟩
  · rw [hx.1] at hk; simp [Value.ownBlock] at hk
  · have he : g = k := by simpa [Value.ownBlock] using hk
    subst he
    exact hn _ _ _ hgg ho
theorem OwnR.isOf {Q : Type} {K : RowK Q} {base : Nat} {v : Value} {L : List Q} (h : OwnR K w base v L) (ho : K.t ∈ ow) : ∀ k, v.ownBlock = some k → ¬ NotOf ow w k := by
  intro k hk hn
  rcases h.2 with hx | ⟨g, cap, cur, rfl, hbg, hgg, rest⟩
  · rw [hx.1] at hk; simp [Value.ownBlock] at hk
  · have he : g = k := by simpa [Value.ownBlock] using hk
    subst he
    exact hn _ _ _ hgg ho
theorem Kep.grownI (h : Kep tb B ow a b) {base : Nat} {v : Value} {L : List Int} (hO : OwnI b base v L) (hg : b.grownBy c v.ownBlock) (hB : B ≤ base) (ho : 3 ∈ ow) : Kep tb B ow a c :=
  h.grown hg (fun k hk => Nat.le_trans hB (hO.blk k hk)) (hO.isOf ho)
theorem Kep.grownR (h : Kep tb B ow a b) {Q : Type} {K : RowK Q} {base : Nat} {v : Value} {L : List Q} (hO : OwnR K b base v L) (hg : b.grownBy c v.ownBlock) (hB : B ≤ base) (ho : K.t ∈ ow) : Kep tb B ow a c :=
  h.grown hg (fun k hk => Nat.le_trans hB (hO.blk k hk)) (hO.isOf ho)
/-- A row that the function itself has made. -/
theorem Kep.grownHi (h : Kep tb B ow a b) {row : Option Nat} (hg : b.grownBy c row) (hB : ∀ k, row = some k → a.heap.size ≤ k) : Kep tb B ow a c :=
  ⟨hg.os.trans h.os, hg.tape.trans h.tape, hg.output.trans h.output, Nat.le_trans h.size hg.size, fun k hk hn ho => (hg.block k (Nat.lt_of_lt_of_le hk h.size) (fun e => by have := hB k e.symm; omega)).trans (h.block k hk hn ho)⟩
theorem Kep.box (h : Kep tb B ow a b) {k : Nat} {cs : Array Value} {t : TypeId} (hx : BoxAt a k cs t) (ht : t ∉ ow) (hn : k ≠ tb) : BoxAt b k cs t :=
  ⟨(h.block k hx.lt hn (.inr fun cs' t' r hc => by
    have := hx.h.symm.trans hc
    simp at this
    rw [← this.2.1]; exact ht)).trans hx.h⟩
theorem Kep.low (h : Kep tb B ow a b) {k : Nat} {cs : Array Value} {t : TypeId} (hx : BoxAt a k cs t) (hB : k < B) (hn : k ≠ tb) : BoxAt b k cs t :=
  ⟨(h.block k hx.lt hn (.inl hB)).trans hx.h⟩
theorem Kep.under {b0 : Nat} (h : Kep tb B ow a b) (hx : Below b0 w a) (hs : b0 ≤ a.heap.size) (ht : b0 ≤ tb) (hB : b0 ≤ B) : Below b0 w b :=
  hx.trans ⟨h.os, h.tape, h.output, h.size, fun k hk => h.block k (by omega) (by omega) (.inl (by omega))⟩
/-- A callee that writes a block that the caller has made. -/
theorem Kep.stepHigh {t2 B2 : Nat} {ow2 : List TypeId} (h : Kep tb B ow a b) (k : Kep t2 B2 ow2 b c) (ht : a.heap.size ≤ t2) (hB : a.heap.size ≤ B2) : Kep tb B ow a c :=
  ⟨k.os.trans h.os, k.tape.trans h.tape, k.output.trans h.output, Nat.le_trans h.size k.size, fun i hi hn ho =>
    (k.block i (Nat.lt_of_lt_of_le hi h.size) (by omega) (.inl (by omega))).trans (h.block i hi hn ho)⟩
theorem OwnR.keep {Q : Type} {K : RowK Q} {base : Nat} {v : Value} {L : List Q} (h : OwnR K a base v L) (hk : Kep tb B ow a b) (hx : v.ownBlock ≠ some tb) (ht : K.t ∉ ow) : OwnR K b base v L := by
  refine ⟨h.1, ?_⟩
  rcases h.2 with hn | ⟨g, cap, cur, rfl, hbg, hgg, rest⟩
  · exact .inl hn
  · refine .inr ⟨g, cap, cur, rfl, hbg, (hk.block g (Array.getElem?_eq_some_iff.1 hgg).1 ?_ (.inr fun cs' t' r hc => ?_)).trans hgg, rest⟩
    · rintro rfl
      exact hx rfl
    · have := hgg.symm.trans hc
      simp at this
      rw [← this.2.1]; exact ht
end
end
section
open Go.ChangeShapes Go.WideShapes Go.ChangeAt Go.RowKit Go.Deep

theorem npage_any (n : Int) (w : World) :
    Calls Tryz.prog 25 #[.int .i64 n] w fun e w' => e = .returned (.bool (numB n 4095)) ∧ Below w.heap.size w w' := by
  cases h : numB n 4095
  · have HI := Lib.hid (fun W => dindex_no 0 n W (by rw [h]; rfl))
    clear h
    go_enter Tryz.func25, Tryz.ntmps25
    go_wp2_with fail
    refine (HI.out _).mono ?_
    rintro e w1 ⟨rfl, rfl⟩
    go_wp2
    go_ret
    exact ⟨rfl, Below.refl _ _⟩
  · have HI := Lib.hid (fun W => dindex_yes 0 n W (by decide) h)
    clear h
    go_enter Tryz.func25, Tryz.ntmps25
    go_wp2_with fail
    refine (HI.out _).mono ?_
    rintro e w1 ⟨rfl, hb1⟩
    have HB := Lib.hid hb1
    clear hb1
    go_wp2
    go_ret
    exact ⟨rfl, HB.out⟩
theorem nacc_any (acc : Int) (w : World) :
    Calls Tryz.prog 32 #[.int .i64 acc] w fun e w' => e = .returned (.bool (numB acc 2)) ∧ Below w.heap.size w w' := by
  have HM := Lib.hid (fun W => mayC atr0 acc W)
  unfold atrV atrC atr0 at HM
  generalize mayA ⟨false, false, false, false, false, 0⟩ acc = m at *
  cases h : numB acc 2
  all_goals
    rw [h] at HM
    clear h
    go_enter Tryz.func32, Tryz.ntmps32
    go_wp2_with fail
    refine (HM.out _).mono ?_
    rintro e w1 ⟨rfl, hb1⟩
    go_wp2
    go_ret
    exact ⟨rfl, hb1⟩
theorem nfault_any (x : Flt) (w : World) :
    Calls Tryz.prog 35 #[fltV x] w fun e w' => e = .returned (.bool (x.k != 0)) ∧ Below w.heap.size w w' := by
  unfold fltV
  go_enter Tryz.func35, Tryz.ntmps35
  go_wp2
  go_ret
  exact ⟨rfl, by go_grown⟩
/-- Where stage 2 leads to, no access being asked yet. -/
def findD (l : Nat) (X : Nat → BitVec 64) (on : Bool) (tf mid : Int) : Hit × Flt × List Int :=
  if on = false then (if (l : Int) / 8 ≤ mid then (hit0, ⟨1, 2, 0, false, mid⟩, []) else (⟨mid, 0, both1, 0⟩, flt0, [])) else walkD l X 2 tf mid
theorem nmay_any {cs : Array Value} {ty : TypeId} (f : Option Addr) (l c : Nat) (tf : Int) (tb : Nat) (w : World) (hT : BoxAt w tb cs ty) (h0 : cs[0]? = some (.slice f l c)) (h2 : cs[2]? = some (.int .i64 tf)) :
    Calls Tryz.prog 31 #[.pointer (some ⟨tb, 0, none⟩)] w fun e w' => e = .returned (.bool (okM l && numB tf 4095)) ∧ Below w.heap.size w w' := by
  have HM := Lib.hid (fun W => mcheck_any f l c W)
  have HP := Lib.hid (fun W => npage_any tf W)
  have c0 := hT.get 0 (.slice f l c) h0
  have c2 := Lib.hid (hT.get 2 (.int .i64 tf) h2)
  clear hT h0 h2
  cases h : okM l
  · rw [h, if_neg (by decide)] at HM
    clear h
    go_enter Tryz.func31, Tryz.ntmps31
    go_wp2_with fail
    refine (HM.out _).mono ?_
    rintro e w1 ⟨rfl, hb1⟩
    have HB := Lib.hid hb1
    clear hb1 c0 c2
    go_wp2
    go_ret
    exact ⟨rfl, HB.out⟩
  · rw [h, if_pos rfl] at HM
    clear h
    go_enter Tryz.func31, Tryz.ntmps31
    go_wp2_with fail
    refine (HM.out _).mono ?_
    rintro e w1 ⟨rfl, hb1⟩
    have HB := Lib.hid hb1
    have k2 := keepc hb1 c2.out
    clear hb1 c0 c2
    go_wp2_with fail
    refine (HP.out _).mono ?_
    rintro e w2 ⟨rfl, hb2⟩
    have HB := Lib.hid (bel_trans HB.out hb2)
    clear hb2
    go_wp2
    go_ret
    exact ⟨rfl, HB.out⟩
theorem ncarry_any {cs : Array Value} {ty : TypeId} (f : Option Addr) (l c : Nat) (tf mid acc : Int) (tb : Nat) (w : World) (hT : BoxAt w tb cs ty) (h0 : cs[0]? = some (.slice f l c)) (h2 : cs[2]? = some (.int .i64 tf)) :
    Calls Tryz.prog 24 #[.pointer (some ⟨tb, 0, none⟩), .int .i64 mid, .int .i64 acc] w fun e w' => e = .returned (.bool (mayN l tf mid acc)) ∧ Below w.heap.size w w' := by
  have HM := Lib.hid (fun W (hW : BoxAt W tb cs ty) => nmay_any f l c tf tb W hW h0 h2)
  have HP := Lib.hid (fun W => npage_any mid W)
  have HA := Lib.hid (fun W => nacc_any acc W)
  have T0 := Lib.hid hT
  have hr : mayN l tf mid acc = ((okM l && numB tf 4095) && numB mid 4095 && numB acc 2) := by
    unfold mayN
    simp only [Bool.and_assoc]
  rw [hr]
  clear hr hT h0 h2
  generalize (okM l && numB tf 4095) = a at *
  generalize numB mid 4095 = b at *
  generalize numB acc 2 = d at *
  cases a
  · go_enter Tryz.func24, Tryz.ntmps24
    go_wp2_with fail
    refine (HM.out _ T0.out).mono ?_
    rintro e w1 ⟨rfl, hb1⟩
    have HB := Lib.hid hb1
    clear hb1
    go_wp2
    go_ret
    exact ⟨rfl, HB.out⟩
  · cases b
    · go_enter Tryz.func24, Tryz.ntmps24
      go_wp2_with fail
      refine (HM.out _ T0.out).mono ?_
      rintro e w1 ⟨rfl, hb1⟩
      have HB := Lib.hid hb1
      clear hb1
      go_wp2_with fail
      refine (HP.out _).mono ?_
      rintro e w2 ⟨rfl, hb2⟩
      have HB := Lib.hid (bel_trans HB.out hb2)
      clear hb2
      go_wp2
      go_ret
      exact ⟨rfl, HB.out⟩
    · go_enter Tryz.func24, Tryz.ntmps24
      go_wp2_with fail
      refine (HM.out _ T0.out).mono ?_
      rintro e w1 ⟨rfl, hb1⟩
      have HB := Lib.hid hb1
      clear hb1
      go_wp2_with fail
      refine (HP.out _).mono ?_
      rintro e w2 ⟨rfl, hb2⟩
      have HB := Lib.hid (bel_trans HB.out hb2)
      clear hb2
      go_wp2_with fail
      refine (HA.out _).mono ?_
      rintro e w3 ⟨rfl, hb3⟩
      have HB := Lib.hid (bel_trans HB.out hb3)
      clear hb3
      go_wp2
      go_ret
      exact ⟨by first | rfl | simp, HB.out⟩
set_option maxRecDepth 100000 in
set_option maxHeartbeats 1600000 in
theorem nplainT_any (f : Option Addr) (l c : Nat) (on : Bool) (tf tg : Int) (rd : Value) (on1 : Bool) (of1 og1 pg acc1 cur lv : Int) (mid : Int) (tb : Nat) (w : World) (hT : BoxAt w tb #[.slice f l c, .bool on, .int .i64 tf, .int .i64 tg, rd, .bool on1, .int .i64 of1, .int .i64 og1, .int .i64 pg, .int .i64 acc1, .int .i64 cur, .int .i64 lv] 58) (hM : okM l = true) :
    Calls Tryz.prog 63 #[.pointer (some ⟨tb, 0, none⟩), .int .i64 mid] w fun e w' => e = .returned (.tuple #[hitV (if (l : Int) / 8 ≤ mid then hit0 else ⟨mid, 0, both1, 0⟩), fltV (if (l : Int) / 8 ≤ mid then ⟨1, 2, 0, false, mid⟩ else flt0)]) ∧ Below w.heap.size w w' := by
  have HF := Lib.hid (fun W => frames_any f l c W)
  rw [if_pos hM] at HF
  have HB := Lib.hid (fun W => bothC none 0 0 [] W (RowsAt.nil _ _) rfl (by decide))
  have htl : tb + 1 ≤ w.heap.size := hT.lt
  have htw : w.heap.size ≤ w.heap.size := Nat.le_refl _
  have T0 := Lib.hid hT
  have B0 := Lib.hid (Below.refl w.heap.size w)
  clear hM hT
  generalize (l : Int) / 8 = N at *
  by_cases hA : N ≤ mid
  · rw [if_pos hA, if_pos hA]
    have dA : decide (N ≤ mid) = true := decide_eq_true hA
    unfold hitV fltV hit0 atr0
    simp only
    clear hA
    go_enter Tryz.func63, Tryz.ntmps63
    go_upto_region 1 with fail
    have T1 := Lib.hid (((T0.out.alloc (.cells z9 40)).alloc (.cells z5 42)))
    have H1 := Lib.hid (((BoxAt.newAt (w) z9 40 (w.heap.size) (by first | omega | (simp; done) | (simp; omega))).alloc (.cells z5 42)))
    have F1 := Lib.hid ((BoxAt.newAt ((w).alloc (.cells z9 40)) z5 42 (w.heap.size + 1) (by first | omega | (simp; done) | (simp; omega))))
    have B1 := Lib.hid ((bel_alloc (bel_alloc B0.out (.cells z9 40)) (.cells z5 42)))
    obtain ⟨g1, hg1⟩ : ∃ g1, g1 = w.heap.size := ⟨_, rfl⟩
    obtain ⟨W1, hW1⟩ : ∃ W1, W1 = ((w).alloc (.cells z9 40)).alloc (.cells z5 42) := ⟨_, rfl⟩
    have hs1 : g1 + 1 + 1 ≤ W1.heap.size := by rw [hW1, hg1]; simp
    rw [← hW1] at T1 H1 F1 B1 ⊢
    have hb1 : w.heap.size ≤ g1 := by omega
    rw [← hg1] at H1 F1 ⊢
    clear hg1
    clear hW1 T0 B0
    have Tc0 := T1.out.get 0 (.slice f l c) rfl
    go_wp2_with fail
    refine (HF.out _).mono ?_
    rintro e w2 ⟨rfl, hb2⟩
    have hz2 := hb2.size
    have T2 := Lib.hid (T1.out.below hb2)
    have H2 := Lib.hid (H1.out.below hb2)
    have F2 := Lib.hid (F1.out.below hb2)
    have B2 := Lib.hid (bel_trans B1.out hb2)
    skip
    have hs2 : g1 + 1 + 1 ≤ w2.heap.size := by omega
    clear Tc0
    clear T1 H1 F1 B1 hs1 hb2 hz2
    go_wp2_with (first | (refine wpList_storeB rfl 40 _ _ rfl (g1) #[.int .i64 0, .int .i64 0, .bool false, .bool false, .bool false, .bool false, .bool false, .int .i64 0, .int .i64 0] _ 40 rfl rfl (by kernel_rfl) (by rfl) (by simp [Value.oneCell']) H2.out ?_) | (refine wpList_storeB rfl 42 _ _ rfl (g1 + 1) #[.int .i64 1, .int .i64 2, .int .i64 0, .bool false, .int .i64 mid] _ 42 rfl rfl (by kernel_rfl) (by rfl) (by simp [Value.oneCell']) (F2.out.row (cs' := #[.int .i64 0, .int .i64 0, .bool false, .bool false, .bool false, .bool false, .bool false, .int .i64 0, .int .i64 0]) (show g1 + 1 ≠ g1 by omega)) ?_))
    have RH := ((H2.out.put (cs' := #[.int .i64 0, .int .i64 0, .bool false, .bool false, .bool false, .bool false, .bool false, .int .i64 0, .int .i64 0])).row (cs' := #[.int .i64 1, .int .i64 2, .int .i64 0, .bool false, .int .i64 mid]) (show g1 ≠ g1 + 1 by omega))
    have RF := ((F2.out.row (cs' := #[.int .i64 0, .int .i64 0, .bool false, .bool false, .bool false, .bool false, .bool false, .int .i64 0, .int .i64 0]) (show g1 + 1 ≠ g1 by omega)).put (cs' := #[.int .i64 1, .int .i64 2, .int .i64 0, .bool false, .int .i64 mid]))
    refine bodyPost_ret (v := .tuple #[.agg #[.int .i64 0, .int .i64 0, .bool false, .bool false, .bool false, .bool false, .bool false, .int .i64 0, .int .i64 0], .agg #[.int .i64 1, .int .i64 2, .int .i64 0, .bool false, .int .i64 mid]]) (by simp [results, Tryz.results63, go_sem, RH.get 0 (.int .i64 0) rfl, RH.get 1 (.int .i64 0) rfl, RH.get 2 (.bool false) rfl, RH.get 3 (.bool false) rfl, RH.get 4 (.bool false) rfl, RH.get 5 (.bool false) rfl, RH.get 6 (.bool false) rfl, RH.get 7 (.int .i64 0) rfl, RH.get 8 (.int .i64 0) rfl, RF.get 0 (.int .i64 1) rfl, RF.get 1 (.int .i64 2) rfl, RF.get 2 (.int .i64 0) rfl, RF.get 3 (.bool false) rfl, RF.get 4 (.int .i64 mid) rfl]) rfl ?_
    exact ⟨rfl, (Below.rowB (g := g1 + 1) (Below.rowB (g := g1) B2.out (cs := #[.int .i64 0, .int .i64 0, .bool false, .bool false, .bool false, .bool false, .bool false, .int .i64 0, .int .i64 0]) (show w.heap.size ≤ g1 by omega)) (cs := #[.int .i64 1, .int .i64 2, .int .i64 0, .bool false, .int .i64 mid]) (show w.heap.size ≤ g1 + 1 by omega))⟩
  · rw [if_neg hA, if_neg hA]
    have dA : decide (N ≤ mid) = false := decide_eq_false hA
    unfold hitV fltV flt0
    simp only
    skip
    clear hA
    go_enter Tryz.func63, Tryz.ntmps63
    go_upto_region 1 with fail
    have T1 := Lib.hid (((T0.out.alloc (.cells z9 40)).alloc (.cells z5 42)))
    have H1 := Lib.hid (((BoxAt.newAt (w) z9 40 (w.heap.size) (by first | omega | (simp; done) | (simp; omega))).alloc (.cells z5 42)))
    have F1 := Lib.hid ((BoxAt.newAt ((w).alloc (.cells z9 40)) z5 42 (w.heap.size + 1) (by first | omega | (simp; done) | (simp; omega))))
    have B1 := Lib.hid ((bel_alloc (bel_alloc B0.out (.cells z9 40)) (.cells z5 42)))
    obtain ⟨g1, hg1⟩ : ∃ g1, g1 = w.heap.size := ⟨_, rfl⟩
    obtain ⟨W1, hW1⟩ : ∃ W1, W1 = ((w).alloc (.cells z9 40)).alloc (.cells z5 42) := ⟨_, rfl⟩
    have hs1 : g1 + 1 + 1 ≤ W1.heap.size := by rw [hW1, hg1]; simp
    rw [← hW1] at T1 H1 F1 B1 ⊢
    have hb1 : w.heap.size ≤ g1 := by omega
    rw [← hg1] at H1 F1 ⊢
    clear hg1
    clear hW1 T0 B0
    have Tc0 := T1.out.get 0 (.slice f l c) rfl
    go_wp2_with fail
    refine (HF.out _).mono ?_
    rintro e w2 ⟨rfl, hb2⟩
    have hz2 := hb2.size
    have T2 := Lib.hid (T1.out.below hb2)
    have H2 := Lib.hid (H1.out.below hb2)
    have F2 := Lib.hid (F1.out.below hb2)
    have B2 := Lib.hid (bel_trans B1.out hb2)
    skip
    have hs2 : g1 + 1 + 1 ≤ w2.heap.size := by omega
    clear Tc0
    clear T1 H1 F1 B1 hs1 hb2 hz2
    go_wp2_with fail
    refine (HB.out _).mono ?_
    rintro e w3 ⟨rfl, hb3⟩
    have hz3 := hb3.size
    have T3 := Lib.hid (T2.out.below hb3)
    have H3 := Lib.hid (H2.out.below hb3)
    have F3 := Lib.hid (F2.out.below hb3)
    have B3 := Lib.hid (bel_trans B2.out hb3)
    skip
    have hs3 : g1 + 1 + 1 ≤ w3.heap.size := by omega
    clear T2 H2 F2 B2 hs2 hb3 hz3
    skip
    go_wp2_with (first | (refine wpList_storeB rfl 40 _ _ rfl (g1) #[.int .i64 mid, .int .i64 0, .bool true, .bool true, .bool true, .bool true, .bool false, .int .i64 0, .int .i64 0] _ 40 rfl rfl (by kernel_rfl) (by rfl) (by simp [Value.oneCell']) H3.out ?_) | (refine wpList_storeB rfl 42 _ _ rfl (g1 + 1) #[.int .i64 0, .int .i64 0, .int .i64 0, .bool false, .int .i64 0] _ 42 rfl rfl (by kernel_rfl) (by rfl) (by simp [Value.oneCell']) (F3.out.row (cs' := #[.int .i64 mid, .int .i64 0, .bool true, .bool true, .bool true, .bool true, .bool false, .int .i64 0, .int .i64 0]) (show g1 + 1 ≠ g1 by omega)) ?_))
    have RH := ((H3.out.put (cs' := #[.int .i64 mid, .int .i64 0, .bool true, .bool true, .bool true, .bool true, .bool false, .int .i64 0, .int .i64 0])).row (cs' := #[.int .i64 0, .int .i64 0, .int .i64 0, .bool false, .int .i64 0]) (show g1 ≠ g1 + 1 by omega))
    have RF := ((F3.out.row (cs' := #[.int .i64 mid, .int .i64 0, .bool true, .bool true, .bool true, .bool true, .bool false, .int .i64 0, .int .i64 0]) (show g1 + 1 ≠ g1 by omega)).put (cs' := #[.int .i64 0, .int .i64 0, .int .i64 0, .bool false, .int .i64 0]))
    refine bodyPost_ret (v := .tuple #[.agg #[.int .i64 mid, .int .i64 0, .bool true, .bool true, .bool true, .bool true, .bool false, .int .i64 0, .int .i64 0], .agg #[.int .i64 0, .int .i64 0, .int .i64 0, .bool false, .int .i64 0]]) (by simp [results, Tryz.results63, go_sem, RH.get 0 (.int .i64 mid) rfl, RH.get 1 (.int .i64 0) rfl, RH.get 2 (.bool true) rfl, RH.get 3 (.bool true) rfl, RH.get 4 (.bool true) rfl, RH.get 5 (.bool true) rfl, RH.get 6 (.bool false) rfl, RH.get 7 (.int .i64 0) rfl, RH.get 8 (.int .i64 0) rfl, RF.get 0 (.int .i64 0) rfl, RF.get 1 (.int .i64 0) rfl, RF.get 2 (.int .i64 0) rfl, RF.get 3 (.bool false) rfl, RF.get 4 (.int .i64 0) rfl]) rfl ?_
    exact ⟨rfl, (Below.rowB (g := g1 + 1) (Below.rowB (g := g1) B3.out (cs := #[.int .i64 mid, .int .i64 0, .bool true, .bool true, .bool true, .bool true, .bool false, .int .i64 0, .int .i64 0]) (show w.heap.size ≤ g1 by omega)) (cs := #[.int .i64 0, .int .i64 0, .int .i64 0, .bool false, .int .i64 0]) (show w.heap.size ≤ g1 + 1 by omega))⟩
/-- What stage 2 leaves of a trip: the answer; what was read behind what had been read. -/
def FlEndT (f : Option Addr) (l c : Nat) (on : Bool) (tf tg : Int) (on1 : Bool) (of1 og1 pg acc1 cur lv : Int) (tb B : Nat) (R : List Int) (q : Hit × Flt × List Int) (w : World) (e : Ending) (w' : World) : Prop :=
  ∃ f2 c2, e = .returned (.tuple #[hitV q.1, fltV q.2.1]) ∧ BoxAt w' tb #[.slice f l c, .bool on, .int .i64 tf, .int .i64 tg, .slice f2 (R.length + q.2.2.length) c2, .bool on1, .int .i64 of1, .int .i64 og1, .int .i64 pg, .int .i64 acc1, .int .i64 cur, .int .i64 lv] 58 ∧ OwnI w' B (.slice f2 (R.length + q.2.2.length) c2) (R ++ q.2.2) ∧ Kep tb B [3] w w'
set_option maxRecDepth 100000 in
set_option maxHeartbeats 3200000 in
theorem nfindT_any (f : Option Addr) (l c : Nat) (X : Nat → BitVec 64) (on : Bool) (tf tg : Int) (on1 : Bool) (of1 og1 pg acc1 cur lv : Int) (mid : Int) (f' : Option Addr) (c' : Nat) (R : List Int) (tb B : Nat) (w0 w : World) (hX : WordsAt w0 f l X) (hlc : l ≤ c) (hM : okM l = true) (t0 : 0 ≤ tf) (t1 : tf ≤ 4095) (m0 : 0 ≤ mid) (m1 : mid ≤ 4095)
    (hB0 : Below w0.heap.size w0 w) (h0 : w0.heap.size ≤ tb) (hBw : B ≤ w.heap.size) (htB : tb < B) (hO : OwnI w B (.slice f' R.length c') R) (hk : R.length ≤ 100) (hT : BoxAt w tb #[.slice f l c, .bool on, .int .i64 tf, .int .i64 tg, .slice f' R.length c', .bool on1, .int .i64 of1, .int .i64 og1, .int .i64 pg, .int .i64 acc1, .int .i64 cur, .int .i64 lv] 58) :
    Calls Tryz.prog 47 #[.pointer (some ⟨tb, 0, none⟩), .int .i64 mid] w (FlEndT f l c on tf tg on1 of1 og1 pg acc1 cur lv tb B R (findD l X on tf mid) w) := by
  have hl := (okM_true hM)
  have HPL := Lib.hid (fun W hW => nplainT_any f l c on tf tg (.slice f' R.length c') on1 of1 og1 pg acc1 cur lv mid tb W hW hM)
  have HW := Lib.hid (fun W (hW : WordsAt W f l X) => walkC f l c X 2 tf mid W (by omega) hlc hW)
  have hq : walkA l X 2 tf mid = (walkD l X 2 tf mid, 0) := by
    unfold walkA
    rw [if_pos]
    unfold walkMay
    rw [hM, numB_iff.2 ⟨t0, t1⟩, numB_iff.2 ⟨m0, m1⟩]
    rfl
  rw [hq] at HW
  have hq4 := (walk_cases l X 2 tf mid t0 m0).1
  have T0 := Lib.hid hT
  have O0 := Lib.hid hO
  have HB0 := Lib.hid hB0
  have HX := Lib.hid hX
  have K0 := Lib.hid (Kep.refl (tb := tb) (B := B) (ow := [3]) w)
  clear hX hB0 hT hO
  clear hq hM hl t0 t1 m0 m1 hlc
  unfold findD
  cases on
  · rw [if_pos rfl]
    obtain ⟨q, hq⟩ : ∃ q, q = (if (l : Int) / 8 ≤ mid then (hit0, (⟨1, 2, 0, false, mid⟩ : Flt), ([] : List Int)) else (⟨mid, 0, both1, 0⟩, flt0, [])) := ⟨_, rfl⟩
    rw [← hq]
    have hq1 : (if (l : Int) / 8 ≤ mid then hit0 else ⟨mid, 0, both1, 0⟩) = q.1 := by rw [hq]; split <;> rfl
    have hq2 : (if (l : Int) / 8 ≤ mid then (⟨1, 2, 0, false, mid⟩ : Flt) else flt0) = q.2.1 := by rw [hq]; split <;> rfl
    have hq3 : q.2.2 = [] := by rw [hq]; split <;> rfl
    rw [hq1, hq2] at HPL
    clear hq hq1 hq2 HW hq4
    obtain ⟨⟨hf, hm, ⟨hr, hw, hx, ha, hn, hs⟩, hl⟩, ⟨fk, fs, fl, fw, fp⟩, Q⟩ := q
    simp only at hq3 HPL
    subst hq3
    unfold hitV fltV at HPL
    simp only at HPL
    go_enter Tryz.func47, Tryz.ntmps47
    go_upto_region 1 with fail
    have T1 := Lib.hid (((T0.out.alloc (.cells z9 40)).alloc (.cells z5 42)))
    have H1 := Lib.hid (((BoxAt.newAt (w) z9 40 (w.heap.size) (by first | omega | (simp; done) | (simp; omega))).alloc (.cells z5 42)))
    have F1 := Lib.hid ((BoxAt.newAt ((w).alloc (.cells z9 40)) z5 42 (w.heap.size + 1) (by first | omega | (simp; done) | (simp; omega))))
    have O1 := Lib.hid (((O0.out.alloc (.cells z9 40)).alloc (.cells z5 42)))
    have B1 := Lib.hid ((bel_alloc (bel_alloc HB0.out (.cells z9 40)) (.cells z5 42)))
    have K1 := Lib.hid (((K0.out.alloc (.cells z9 40)).alloc (.cells z5 42)))
    obtain ⟨g1, hg1⟩ : ∃ g1, g1 = w.heap.size := ⟨_, rfl⟩
    obtain ⟨W1, hW1⟩ : ∃ W1, W1 = ((w).alloc (.cells z9 40)).alloc (.cells z5 42) := ⟨_, rfl⟩
    have hs1 : g1 + 1 + 1 ≤ W1.heap.size := by rw [hW1, hg1]; simp
    rw [← hW1] at T1 H1 F1 O1 B1 K1 ⊢
    have hb1 : w.heap.size ≤ g1 := by omega
    rw [← hg1] at H1 F1 ⊢
    clear hg1
    clear hW1 T0 O0 HB0 K0
    have Tc1 := T1.out.get 1 (.bool false) rfl
    go_wp2_with fail
    refine (HPL.out _ T1.out).mono ?_
    rintro e w2 ⟨rfl, hb2⟩
    have hz2 := hb2.size
    have T2 := Lib.hid (T1.out.below hb2)
    have H2 := Lib.hid (H1.out.below hb2)
    have F2 := Lib.hid (F1.out.below hb2)
    have O2 := Lib.hid (O1.out.below hb2)
    have B2 := Lib.hid (bel_trans B1.out hb2)
    have K2 := Lib.hid (K1.out.step hb2)
    skip
    have hs2 : g1 + 1 + 1 ≤ w2.heap.size := by omega
    clear Tc1
    clear T1 H1 F1 O1 B1 K1 hs1 hb2 hz2
    go_wp2_with (first | (refine wpList_storeB rfl 40 _ _ rfl (g1) #[.int .i64 hf, .int .i64 hm, .bool hr, .bool hw, .bool hx, .bool ha, .bool hn, .int .i64 hs, .int .i64 hl] _ 40 rfl rfl (by kernel_rfl) (by rfl) (by simp [Value.oneCell']) H2.out ?_) | (refine wpList_storeB rfl 42 _ _ rfl (g1 + 1) #[.int .i64 fk, .int .i64 fs, .int .i64 fl, .bool fw, .int .i64 fp] _ 42 rfl rfl (by kernel_rfl) (by rfl) (by simp [Value.oneCell']) (F2.out.row (cs' := #[.int .i64 hf, .int .i64 hm, .bool hr, .bool hw, .bool hx, .bool ha, .bool hn, .int .i64 hs, .int .i64 hl]) (show g1 + 1 ≠ g1 by omega)) ?_))
    have RH := ((H2.out.put (cs' := #[.int .i64 hf, .int .i64 hm, .bool hr, .bool hw, .bool hx, .bool ha, .bool hn, .int .i64 hs, .int .i64 hl])).row (cs' := #[.int .i64 fk, .int .i64 fs, .int .i64 fl, .bool fw, .int .i64 fp]) (show g1 ≠ g1 + 1 by omega))
    have RF := ((F2.out.row (cs' := #[.int .i64 hf, .int .i64 hm, .bool hr, .bool hw, .bool hx, .bool ha, .bool hn, .int .i64 hs, .int .i64 hl]) (show g1 + 1 ≠ g1 by omega)).put (cs' := #[.int .i64 fk, .int .i64 fs, .int .i64 fl, .bool fw, .int .i64 fp]))
    refine bodyPost_ret (v := .tuple #[.agg #[.int .i64 hf, .int .i64 hm, .bool hr, .bool hw, .bool hx, .bool ha, .bool hn, .int .i64 hs, .int .i64 hl], .agg #[.int .i64 fk, .int .i64 fs, .int .i64 fl, .bool fw, .int .i64 fp]]) (by simp [results, Tryz.results47, go_sem, RH.get 0 (.int .i64 hf) rfl, RH.get 1 (.int .i64 hm) rfl, RH.get 2 (.bool hr) rfl, RH.get 3 (.bool hw) rfl, RH.get 4 (.bool hx) rfl, RH.get 5 (.bool ha) rfl, RH.get 6 (.bool hn) rfl, RH.get 7 (.int .i64 hs) rfl, RH.get 8 (.int .i64 hl) rfl, RF.get 0 (.int .i64 fk) rfl, RF.get 1 (.int .i64 fs) rfl, RF.get 2 (.int .i64 fl) rfl, RF.get 3 (.bool fw) rfl, RF.get 4 (.int .i64 fp) rfl]) rfl ?_
    exact ⟨f', c', rfl, ((T2.out.row (cs' := #[.int .i64 hf, .int .i64 hm, .bool hr, .bool hw, .bool hx, .bool ha, .bool hn, .int .i64 hs, .int .i64 hl]) (show tb ≠ g1 by omega)).row (cs' := #[.int .i64 fk, .int .i64 fs, .int .i64 fl, .bool fw, .int .i64 fp]) (show tb ≠ g1 + 1 by omega)), by rw [List.append_nil]; exact ((O2.out.rowN (cs := #[.int .i64 hf, .int .i64 hm, .bool hr, .bool hw, .bool hx, .bool ha, .bool hn, .int .i64 hs, .int .i64 hl]) (O2.out.ne_box H2.out (by decide))).rowN (cs := #[.int .i64 fk, .int .i64 fs, .int .i64 fl, .bool fw, .int .i64 fp]) (O2.out.ne_box F2.out (by decide))), ((K2.out.row (g1) #[.int .i64 hf, .int .i64 hm, .bool hr, .bool hw, .bool hx, .bool ha, .bool hn, .int .i64 hs, .int .i64 hl] (show w.heap.size ≤ g1 by omega)).row (g1 + 1) #[.int .i64 fk, .int .i64 fs, .int .i64 fl, .bool fw, .int .i64 fp] (show w.heap.size ≤ g1 + 1 by omega))⟩
  · rw [if_neg (by decide)]
    generalize walkD l X 2 tf mid = q at *
    obtain ⟨⟨hf, hm, ⟨hr, hw, hx, ha, hn, hs⟩, hl⟩, ⟨fk, fs, fl, fw, fp⟩, Q⟩ := q
    unfold Walk4End hitV fltV at HW
    simp only at HW hq4
    clear HPL
    go_enter Tryz.func47, Tryz.ntmps47
    go_upto_region 1 with fail
    have T1 := Lib.hid (((T0.out.alloc (.cells z9 40)).alloc (.cells z5 42)))
    have H1 := Lib.hid (((BoxAt.newAt (w) z9 40 (w.heap.size) (by first | omega | (simp; done) | (simp; omega))).alloc (.cells z5 42)))
    have F1 := Lib.hid ((BoxAt.newAt ((w).alloc (.cells z9 40)) z5 42 (w.heap.size + 1) (by first | omega | (simp; done) | (simp; omega))))
    have O1 := Lib.hid (((O0.out.alloc (.cells z9 40)).alloc (.cells z5 42)))
    have B1 := Lib.hid ((bel_alloc (bel_alloc HB0.out (.cells z9 40)) (.cells z5 42)))
    have K1 := Lib.hid (((K0.out.alloc (.cells z9 40)).alloc (.cells z5 42)))
    obtain ⟨g1, hg1⟩ : ∃ g1, g1 = w.heap.size := ⟨_, rfl⟩
    obtain ⟨W1, hW1⟩ : ∃ W1, W1 = ((w).alloc (.cells z9 40)).alloc (.cells z5 42) := ⟨_, rfl⟩
    have hs1 : g1 + 1 + 1 ≤ W1.heap.size := by rw [hW1, hg1]; simp
    rw [← hW1] at T1 H1 F1 O1 B1 K1 ⊢
    have hb1 : w.heap.size ≤ g1 := by omega
    rw [← hg1] at H1 F1 ⊢
    clear hg1
    clear hW1 T0 O0 HB0 K0
    have Tc1 := T1.out.get 1 (.bool true) rfl
    go_upto_region 3 with fail
    clear Tc1
    have hcs : g1 + 1 + 1 ≤ W1.heap.size := by omega
    refine wp_region_table (X := Option Addr × Nat) (none, 0) (I0 := fun w' => Below W1.heap.size W1 w') (I1 := fun xJ w' => Below W1.heap.size W1 w' ∧ OwnI w' (W1.heap.size) (.slice xJ.1 Q.length xJ.2) (Q)) (lo := W1.heap.size) (c := 10) (U := [⟨(some 22), .con (.pointer (some ⟨tb, 0, none⟩))⟩, ⟨(some 23), .con (.pointer (some ⟨tb, 0, none⟩))⟩, ⟨(some 24), .con (.pointer (some ⟨tb, 0, none⟩))⟩, ⟨(some 25), .ld (.agg #[.slice f l c])⟩, ⟨(some 26), .con (.pointer (some ⟨tb, 0, none⟩))⟩, ⟨(some 27), .con (.pointer (some ⟨tb, 0, none⟩))⟩, ⟨(some 28), .con (.pointer (some ⟨tb, 1, none⟩))⟩, ⟨(some 29), .con (.pointer (some ⟨tb, 2, none⟩))⟩, ⟨(some 30), .ld (.int .i64 tf)⟩, ⟨(some 31), .con (.int .i64 mid)⟩, ⟨(some 32), .cal fun xJ => .tuple #[.agg #[.int .i64 hf, .int .i64 hm, .bool hr, .bool hw, .bool hx, .bool ha, .bool hn, .int .i64 hs, .int .i64 hl], .agg #[.int .i64 fk, .int .i64 fs, .int .i64 fl, .bool fw, .int .i64 fp], .slice xJ.1 Q.length xJ.2, .int .i64 0]⟩, ⟨(some 21), .res fun xJ => .tuple #[.agg #[.int .i64 hf, .int .i64 hm, .bool hr, .bool hw, .bool hx, .bool ha, .bool hn, .int .i64 hs, .int .i64 hl], .agg #[.int .i64 fk, .int .i64 fs, .int .i64 fl, .bool fw, .int .i64 fp], .slice xJ.1 Q.length xJ.2, .int .i64 0]⟩, ⟨(some 33), .res fun xJ => .agg #[.int .i64 hf, .int .i64 hm, .bool hr, .bool hw, .bool hx, .bool ha, .bool hn, .int .i64 hs, .int .i64 hl]⟩, ⟨(some 34), .res fun xJ => .agg #[.int .i64 fk, .int .i64 fs, .int .i64 fl, .bool fw, .int .i64 fp]⟩, ⟨(some 35), .res fun xJ => .slice xJ.1 Q.length xJ.2⟩, ⟨(some 36), .res fun xJ => .int .i64 0⟩, ⟨(some 6), .new 40 #[.int .i64 0, .int .i64 0, .bool false, .bool false, .bool false, .bool false, .bool false, .int .i64 0, .int .i64 0]⟩, ⟨(some 7), .new 42 #[.int .i64 0, .int .i64 0, .int .i64 0, .bool false, .int .i64 0]⟩, ⟨none, .sto 16 fun xJ => #[.int .i64 hf, .int .i64 hm, .bool hr, .bool hw, .bool hx, .bool ha, .bool hn, .int .i64 hs, .int .i64 hl]⟩, ⟨none, .sto 17 fun xJ => #[.int .i64 fk, .int .i64 fs, .int .i64 fl, .bool fw, .int .i64 fp]⟩, ⟨(some 8), .res fun xJ => .slice xJ.1 Q.length xJ.2⟩, ⟨(some 9), .res fun xJ => .int .i64 0⟩])
      (V := fun xJ => .tuple #[.agg #[.int .i64 hf, .int .i64 hm, .bool hr, .bool hw, .bool hx, .bool ha, .bool hn, .int .i64 hs, .int .i64 hl], .agg #[.int .i64 fk, .int .i64 fs, .int .i64 fl, .bool fw, .int .i64 fp], .slice xJ.1 Q.length xJ.2, .int .i64 0]) (f := 64) (args := #[.agg #[.slice f l c], .int .i64 2, .int .i64 tf, .int .i64 mid]) (dc := some 32) (by kernel_rfl) (fun _ _ => rfl) (by kernel_rfl) (by kernel_rfl) rfl
      (AllObl.all ⟨fun _ _ _ => by kernel_rfl, fun _ _ _ => by kernel_rfl, fun _ _ _ => by kernel_rfl, fun _ _ _ hJ => run_ldN 24 (.tmp 24) tb 0 (by kernel_rfl) (by kernel_rfl) Tryz.underlying24 rfl (by kernel_rfl) ((T1.out.below hJ).sub 0 _ rfl), fun _ _ _ => by kernel_rfl, fun _ _ _ => by kernel_rfl, fun _ _ _ => by kernel_rfl, fun _ _ _ => by kernel_rfl, fun _ _ _ hJ => run_ld1 3 (.tmp 29) tb 2 (by kernel_rfl) (by kernel_rfl) Tryz.underlying3 rfl ((T1.out.below hJ).get 2 (.int .i64 tf) rfl), fun _ _ _ => by kernel_rfl, trivial, fun _ _ _ => by kernel_rfl, fun _ _ _ => by kernel_rfl, fun _ _ _ => by kernel_rfl, fun _ _ _ => by kernel_rfl, fun _ _ _ => by kernel_rfl, fun _ _ _ => by kernel_rfl, fun _ _ _ => by kernel_rfl, ⟨_, _, _, rfl, fun _ _ _ hJ => run_stoB 40 (.tmp 6) (.tmp 33) _ (by kernel_rfl) (by kernel_rfl) (by kernel_rfl) (by kernel_rfl) (by rfl) (by simp [Value.oneCell']) hJ⟩, ⟨_, _, _, rfl, fun _ _ _ hJ => run_stoB 42 (.tmp 7) (.tmp 34) _ (by kernel_rfl) (by kernel_rfl) (by kernel_rfl) (by kernel_rfl) (by rfl) (by simp [Value.oneCell']) hJ⟩, fun _ _ _ => by kernel_rfl, fun _ _ _ => by kernel_rfl, trivial⟩)
      (fun _ oJ hJ => bel_alloc hJ oJ) (fun xJ _ oJ hJ => ⟨bel_alloc hJ.1 oJ, hJ.2.alloc oJ⟩) (fun xJ _ bJ csJ dsJ tJ iJ zJ dJ hiJ hbJ hxJ hJ => ⟨Below.rowB (g := bJ) hJ.1 (cs := dsJ) hbJ, hJ.2.rowN (hJ.2.ne_box hxJ (fun eJ => newsOk_spec (bad := [3]) (by kernel_rfl) hiJ (by rw [eJ]; exact List.mem_cons_self ..)))⟩) (fun _ hJ => hJ.size) (fun xJ _ hJ => hJ.1.size) (fun _ _ _ _ => by kernel_rfl)
      (fun wJ hJ => (HW.out _ (HX.out.below (bel_trans B1.out hJ))).mono (by rintro _ w2J ⟨f3, c3, rfl, hN, hb⟩; exact ⟨(f3, c3), rfl, ⟨bel_trans hJ hb, OwnI.mono hN hJ.size⟩, fun bJ csJ tJ iJ zJ dJ hiJ hlJ hxJ => hxJ.below hb⟩)) (Below.drew (Below.refl _ _)) ?_
    rintro ⟨f3, c3⟩ βJ w2c ⟨q2_0, q2_1⟩ hNW
    obtain ⟨hbG2, QG2⟩ := hNW.full 16 18 (by kernel_rfl) rfl rfl
    obtain ⟨hbJ2, QJ2⟩ := hNW.full 17 19 (by kernel_rfl) rfl rfl
    have hn2_01 := hNW.ne 16 17 _ _ _ _ _ _ rfl rfl rfl rfl (by decide)
    clear hNW
    simp only [putU, if_true, Act.put, Knd.val, List.setIfInBounds_toArray, List.set_cons_zero, List.set_cons_succ]
    generalize βJ 16 = bG at *
    generalize βJ 17 = bJ at *
    clear βJ
    have hz2 := q2_0.size
    have T2 := Lib.hid (T1.out.below q2_0)
    have H2 := Lib.hid (H1.out.below q2_0)
    have F2 := Lib.hid (F1.out.below q2_0)
    have O2 := Lib.hid (O1.out.below q2_0)
    have B2 := Lib.hid (bel_trans B1.out q2_0)
    have K2 := Lib.hid (K1.out.step q2_0)
    have Q2 := Lib.hid (q2_1)
    have Gn2 := Lib.hid (QG2)
    have Jn2 := Lib.hid (QJ2)
    obtain ⟨m2, hm2⟩ : ∃ m2, m2 = w2c.heap.size := ⟨_, rfl⟩
    have hbm2 : g1 + 1 + 1 ≤ m2 := by omega
    have hlG2 : bG + 1 ≤ m2 := by rw [hm2]; exact QG2.lt
    have hgG2 : g1 + 1 + 1 ≤ bG := by omega
    have hlJ2 : bJ + 1 ≤ m2 := by rw [hm2]; exact QJ2.lt
    have hgJ2 : g1 + 1 + 1 ≤ bJ := by omega
    have hs2 : m2 ≤ w2c.heap.size := by omega
    clear hm2 hz2 hcs q2_0 q2_1 QG2 hbG2 QJ2 hbJ2 T1 H1 F1 O1 B1 K1 hs1
    have Tc4 := T2.out.get 4 (.slice f' R.length c') rfl
    go_upto_region 5 with (at_builtin; refine wpList_rowI rfl _ _ rfl B (W1.heap.size) R.length Q.length _ _ R Q rfl O2.out rfl rfl Q2.out rfl (by omega) (by first | omega | (simp; omega)) ?_; intro f3a c3a w3 hO3 hg3; clear Tc4; have hz3 := hg3.size; have T3 := Lib.hid (T2.out.grown hg3 (O2.out.ne_box T2.out (by decide))); have H3 := Lib.hid (H2.out.grown hg3 (O2.out.ne_box H2.out (by decide))); have F3 := Lib.hid (F2.out.grown hg3 (O2.out.ne_box F2.out (by decide))); have G3 := Lib.hid (Gn2.out.grown hg3 (O2.out.ne_box Gn2.out (by decide))); have J3 := Lib.hid (Jn2.out.grown hg3 (O2.out.ne_box Jn2.out (by decide))); have O3 := Lib.hid (hO3); have B3 := Lib.hid (B2.out.grown hg3 (show w0.heap.size ≤ _ by first | omega | (simp; omega)) (fun k hk => Nat.le_trans (show w0.heap.size ≤ B by omega) (O2.out.blk k hk))); have K3 := Lib.hid (K2.out.grownI O2.out hg3 (by omega) (by decide)); have hs3 : m2 ≤ w3.heap.size := (by omega); clear T2 H2 F2 Gn2 Jn2 O2 Q2 B2 K2 hg3 hO3 hz3 hs2; have Tc4 := T3.out.get 4 (.slice f' R.length c') rfl; have Tz4 := T3.out.free 4)
    clear Tc4 Tz4
    have T4 := Lib.hid ((T3.out.set 4 (.slice f3a (R.length + Q.length) c3a) #[.slice f l c, .bool true, .int .i64 tf, .int .i64 tg, .slice f3a (R.length + Q.length) c3a, .bool on1, .int .i64 of1, .int .i64 og1, .int .i64 pg, .int .i64 acc1, .int .i64 cur, .int .i64 lv] rfl))
    have H4 := Lib.hid ((H3.out.other ⟨tb, 4, none⟩ (.slice f3a (R.length + Q.length) c3a) (show g1 ≠ tb by omega)))
    have F4 := Lib.hid ((F3.out.other ⟨tb, 4, none⟩ (.slice f3a (R.length + Q.length) c3a) (show g1 + 1 ≠ tb by omega)))
    have G4 := Lib.hid ((G3.out.other ⟨tb, 4, none⟩ (.slice f3a (R.length + Q.length) c3a) (show bG ≠ tb by omega)))
    have J4 := Lib.hid ((J3.out.other ⟨tb, 4, none⟩ (.slice f3a (R.length + Q.length) c3a) (show bJ ≠ tb by omega)))
    have O4 := Lib.hid ((O3.out.otherN ⟨tb, 4, none⟩ (.slice f3a (R.length + Q.length) c3a) (O3.out.ne_box T3.out (by decide))))
    have B4 := Lib.hid ((Below.setCell B3.out (p := ⟨tb, 4, none⟩) (show w0.heap.size ≤ tb by omega) (.slice f3a (R.length + Q.length) c3a)))
    have K4 := Lib.hid ((K3.out.set 4 (.slice f3a (R.length + Q.length) c3a)))
    obtain ⟨W4, hW4⟩ : ∃ W4, W4 = (w3).setCell ⟨tb, 4, none⟩ (.slice f3a (R.length + Q.length) c3a) := ⟨_, rfl⟩
    have hs4 : m2 ≤ W4.heap.size := by rw [hW4]; first | (simp [World.setCell]; omega) | (simp [World.setCell, World.setRow]; omega) | exact hs3
    rw [← hW4] at T4 H4 F4 G4 J4 O4 B4 K4 ⊢
    clear hW4 T3 H3 F3 G3 J3 O3 B3 K3 hs3
    refine wp_region_held_drew (S := (fun w' => BoxAt w' (bG) #[.int .i64 hf, .int .i64 hm, .bool hr, .bool hw, .bool hx, .bool ha, .bool hn, .int .i64 hs, .int .i64 hl] 40 ∧ BoxAt w' (bJ) #[.int .i64 fk, .int .i64 fs, .int .i64 fl, .bool fw, .int .i64 fp] 42)) (by kernel_rfl) ⟨G4.out.drew, J4.out.drew⟩ (fun hS => ?_)
    refine tkR 0 46 (v := .agg #[.int .i64 hf, .int .i64 hm, .bool hr, .bool hw, .bool hx, .bool ha, .bool hn, .int .i64 hs, .int .i64 hl]) rfl hS (fun _ h => run_ldN 40 (.tmp 6) bG 0 (by kernel_rfl) (by kernel_rfl) Tryz.underlying40 rfl (by kernel_rfl) ((h.1).sub 0 _ rfl)) ?_
    refine tkR 1 47 (v := .agg #[.int .i64 fk, .int .i64 fs, .int .i64 fl, .bool fw, .int .i64 fp]) rfl hS (fun _ h => run_ldN 42 (.tmp 7) bJ 0 (by kernel_rfl) (by kernel_rfl) Tryz.underlying42 rfl (by kernel_rfl) ((h.2).sub 0 _ rfl)) ?_
    try simp only [Act.put, List.setIfInBounds_toArray, List.set_cons_zero, List.set_cons_succ]
    refine wpAnyH_ready (rs := [2]) (by kernel_rfl) (by simp) ?_
    refine AllReadyH.cons (o := ⟨none, _, _, _, _, _⟩) rfl (fun K hK => ?_) AllReadyH.nil
    refine step_storeB rfl 40 _ _ rfl _ _ _ 40 rfl rfl (by kernel_rfl) (by rfl) (by simp [Value.oneCell']) (H4.out.drew) ?_
    refine hK.out _ _ ?_ (fun hS' => ?_)
    · exact ⟨hS.1.row (show bG ≠ g1 by omega), hS.2.row (show bJ ≠ g1 by omega)⟩
    clear hK K hS
    have hS := hS'
    clear hS'
    try simp only [Act.put]
    try simp only [Act.put, List.setIfInBounds_toArray, List.set_cons_zero, List.set_cons_succ]
    refine wpAnyH_ready (rs := [3]) (by kernel_rfl) (by simp) ?_
    refine AllReadyH.cons (o := ⟨none, _, _, _, _, _⟩) rfl (fun K hK => ?_) AllReadyH.nil
    refine step_storeB rfl 42 _ _ rfl _ _ _ 42 rfl rfl (by kernel_rfl) (by rfl) (by simp [Value.oneCell']) ((F4.out.drew).row (cs' := #[.int .i64 hf, .int .i64 hm, .bool hr, .bool hw, .bool hx, .bool ha, .bool hn, .int .i64 hs, .int .i64 hl]) (show g1 + 1 ≠ g1 by omega)) ?_
    refine hK.out _ _ ?_ (fun hS' => ?_)
    · exact ⟨hS.1.row (show bG ≠ g1 + 1 by omega), hS.2.row (show bJ ≠ g1 + 1 by omega)⟩
    clear hK K hS
    have hS := hS'
    clear hS'
    try simp only [Act.put]
    refine wpAnyH_done (by kernel_rfl) ?_ _
    try simp only [Act.put, List.setIfInBounds_toArray, List.set_cons_zero, List.set_cons_succ]
    have T5 := Lib.hid ((((T4.out.drew).row (cs' := #[.int .i64 hf, .int .i64 hm, .bool hr, .bool hw, .bool hx, .bool ha, .bool hn, .int .i64 hs, .int .i64 hl]) (show tb ≠ g1 by omega)).row (cs' := #[.int .i64 fk, .int .i64 fs, .int .i64 fl, .bool fw, .int .i64 fp]) (show tb ≠ g1 + 1 by omega)))
    have H5 := Lib.hid ((((H4.out.drew).put (cs' := #[.int .i64 hf, .int .i64 hm, .bool hr, .bool hw, .bool hx, .bool ha, .bool hn, .int .i64 hs, .int .i64 hl])).row (cs' := #[.int .i64 fk, .int .i64 fs, .int .i64 fl, .bool fw, .int .i64 fp]) (show g1 ≠ g1 + 1 by omega)))
    have F5 := Lib.hid ((((F4.out.drew).row (cs' := #[.int .i64 hf, .int .i64 hm, .bool hr, .bool hw, .bool hx, .bool ha, .bool hn, .int .i64 hs, .int .i64 hl]) (show g1 + 1 ≠ g1 by omega)).put (cs' := #[.int .i64 fk, .int .i64 fs, .int .i64 fl, .bool fw, .int .i64 fp])))
    have G5 := Lib.hid ((((G4.out.drew).row (cs' := #[.int .i64 hf, .int .i64 hm, .bool hr, .bool hw, .bool hx, .bool ha, .bool hn, .int .i64 hs, .int .i64 hl]) (show bG ≠ g1 by omega)).row (cs' := #[.int .i64 fk, .int .i64 fs, .int .i64 fl, .bool fw, .int .i64 fp]) (show bG ≠ g1 + 1 by omega)))
    have J5 := Lib.hid ((((J4.out.drew).row (cs' := #[.int .i64 hf, .int .i64 hm, .bool hr, .bool hw, .bool hx, .bool ha, .bool hn, .int .i64 hs, .int .i64 hl]) (show bJ ≠ g1 by omega)).row (cs' := #[.int .i64 fk, .int .i64 fs, .int .i64 fl, .bool fw, .int .i64 fp]) (show bJ ≠ g1 + 1 by omega)))
    have O5 := Lib.hid ((((O4.out.drew).rowN (cs := #[.int .i64 hf, .int .i64 hm, .bool hr, .bool hw, .bool hx, .bool ha, .bool hn, .int .i64 hs, .int .i64 hl]) (O4.out.ne_box H4.out (by decide))).rowN (cs := #[.int .i64 fk, .int .i64 fs, .int .i64 fl, .bool fw, .int .i64 fp]) (O4.out.ne_box F4.out (by decide))))
    have B5 := Lib.hid ((Below.rowB (g := g1 + 1) (Below.rowB (g := g1) (Below.drew B4.out) (cs := #[.int .i64 hf, .int .i64 hm, .bool hr, .bool hw, .bool hx, .bool ha, .bool hn, .int .i64 hs, .int .i64 hl]) (show w0.heap.size ≤ g1 by omega)) (cs := #[.int .i64 fk, .int .i64 fs, .int .i64 fl, .bool fw, .int .i64 fp]) (show w0.heap.size ≤ g1 + 1 by omega)))
    have K5 := Lib.hid ((((K4.out.drew).row (g1) #[.int .i64 hf, .int .i64 hm, .bool hr, .bool hw, .bool hx, .bool ha, .bool hn, .int .i64 hs, .int .i64 hl] (show w.heap.size ≤ g1 by omega)).row (g1 + 1) #[.int .i64 fk, .int .i64 fs, .int .i64 fl, .bool fw, .int .i64 fp] (show w.heap.size ≤ g1 + 1 by omega)))
    obtain ⟨W5, hW5⟩ : ∃ W5, W5 = (((W4).drew).setRow (g1) #[.int .i64 hf, .int .i64 hm, .bool hr, .bool hw, .bool hx, .bool ha, .bool hn, .int .i64 hs, .int .i64 hl]).setRow (g1 + 1) #[.int .i64 fk, .int .i64 fs, .int .i64 fl, .bool fw, .int .i64 fp] := ⟨_, rfl⟩
    have hs5 : m2 ≤ W5.heap.size := by rw [hW5]; first | exact hs4 | (simp; omega)
    rw [← hW5] at T5 H5 F5 G5 J5 O5 B5 K5 ⊢
    clear hW5 T4 H4 F4 G4 J4 O4 B4 K4 hs4
    go_wp2
    have RH := H5.out
    have RF := F5.out
    refine bodyPost_ret (v := .tuple #[.agg #[.int .i64 hf, .int .i64 hm, .bool hr, .bool hw, .bool hx, .bool ha, .bool hn, .int .i64 hs, .int .i64 hl], .agg #[.int .i64 fk, .int .i64 fs, .int .i64 fl, .bool fw, .int .i64 fp]]) (by simp [results, Tryz.results47, go_sem, RH.get 0 (.int .i64 hf) rfl, RH.get 1 (.int .i64 hm) rfl, RH.get 2 (.bool hr) rfl, RH.get 3 (.bool hw) rfl, RH.get 4 (.bool hx) rfl, RH.get 5 (.bool ha) rfl, RH.get 6 (.bool hn) rfl, RH.get 7 (.int .i64 hs) rfl, RH.get 8 (.int .i64 hl) rfl, RF.get 0 (.int .i64 fk) rfl, RF.get 1 (.int .i64 fs) rfl, RF.get 2 (.int .i64 fl) rfl, RF.get 3 (.bool fw) rfl, RF.get 4 (.int .i64 fp) rfl]) rfl ?_
    exact ⟨f3a, c3a, rfl, T5.out, O5.out, K5.out⟩
/-- Stage 2 is: find, then the access. -/
theorem mid_find (l : Nat) (X : Nat → BitVec 64) (on : Bool) (tf mid acc : Int) (ha : numB acc 2 = true) : midD l X on tf mid acc =
    if (findD l X on tf mid).2.1.k = 0 then (if (flagA (findD l X on tf mid).1.t acc 2 (findD l X on tf mid).1.l mid).k = 0 then (⟨(findD l X on tf mid).1.f, mid, (findD l X on tf mid).1.t, (findD l X on tf mid).1.l⟩, flt0, (findD l X on tf mid).2.2)
      else (hit0, flagA (findD l X on tf mid).1.t acc 2 (findD l X on tf mid).1.l mid, (findD l X on tf mid).2.2)) else (hit0, (findD l X on tf mid).2.1, (findD l X on tf mid).2.2) := by
  unfold midD findD
  cases on
  · by_cases h : (l : Int) / 8 ≤ mid
    · simp [h]
    · have hf : flagA both1 acc 2 0 mid = flt0 := by
        obtain ⟨a0, a1⟩ := numB_iff.1 ha
        have : acc = 0 ∨ acc = 1 ∨ acc = 2 := by omega
        rcases this with rfl | rfl | rfl <;> rfl
      simp [h, flt0]
      simp [flt0] at hf
      rw [hf]
      simp
  · rfl
set_option maxRecDepth 100000 in
set_option maxHeartbeats 3200000 in
theorem nreachT_any (f : Option Addr) (l c : Nat) (X : Nat → BitVec 64) (on : Bool) (tf tg : Int) (on1 : Bool) (of1 og1 pg acc1 cur lv : Int) (mid acc : Int) (f' : Option Addr) (c' : Nat) (R : List Int) (tb B : Nat) (w0 w : World) (hac : numB acc 2 = true) (hX : WordsAt w0 f l X) (hlc : l ≤ c) (hM : okM l = true) (t0 : 0 ≤ tf) (t1 : tf ≤ 4095) (m0 : 0 ≤ mid) (m1 : mid ≤ 4095)
    (hB0 : Below w0.heap.size w0 w) (h0 : w0.heap.size ≤ tb) (hBw : B ≤ w.heap.size) (htB : tb < B) (hO : OwnI w B (.slice f' R.length c') R) (hk : R.length ≤ 100) (hT : BoxAt w tb #[.slice f l c, .bool on, .int .i64 tf, .int .i64 tg, .slice f' R.length c', .bool on1, .int .i64 of1, .int .i64 og1, .int .i64 pg, .int .i64 acc1, .int .i64 cur, .int .i64 lv] 58) :
    Calls Tryz.prog 34 #[.pointer (some ⟨tb, 0, none⟩), .int .i64 mid, .int .i64 acc] w (FlEndT f l c on tf tg on1 of1 og1 pg acc1 cur lv tb B R (midD l X on tf mid acc) w) := by
  have HFD := Lib.hid (fun W hB0 hBw hO hT => nfindT_any f l c X on tf tg on1 of1 og1 pg acc1 cur lv mid f' c' R tb B w0 W hX hlc hM t0 t1 m0 m1 hB0 h0 hBw htB hO hk hT)
  have HIF := Lib.hid (fun fk fs fl fw fp W => nfault_any ⟨fk, fs, fl, fw, fp⟩ W)
  unfold fltV at HIF
  simp only at HIF
  rw [mid_find l X on tf mid acc hac]
  have HG := Lib.hid (fun t lv W => flagC t acc 2 lv mid W)
  simp only [if_pos hac] at HG
  have T0 := Lib.hid hT
  have O0 := Lib.hid hO
  have HB0 := Lib.hid hB0
  have HX := Lib.hid hX
  have K0 := Lib.hid (Kep.refl (tb := tb) (B := B) (ow := [3]) w)
  clear hX hB0 hT hO
  clear t0 t1 m0 m1 hlc hM hac
  generalize findD l X on tf mid = q at *
  obtain ⟨⟨hf, hm, ⟨hr, hw, hx, ha, hn, hs⟩, hl⟩, ⟨fk, fs, fl, fw, fp⟩, Q⟩ := q
  have HG := Lib.hid (HG.out ⟨hr, hw, hx, ha, hn, hs⟩ hl)
  simp only
  by_cases hk0 : fk = 0
  · rw [if_pos hk0]
    have df : (fk != 0) = false := by rw [hk0]; rfl
    generalize flagA ⟨hr, hw, hx, ha, hn, hs⟩ acc 2 hl mid = g at *
    obtain ⟨gk, gs, gl, gw, gp⟩ := g
    unfold atrV atrC fltV at HG
    simp only at HG
    simp only
    clear hk0
    by_cases hg0 : gk = 0
    · rw [if_pos hg0]
      have dg : (gk != 0) = false := by rw [hg0]; rfl
      clear hg0
      go_enter Tryz.func34, Tryz.ntmps34
      go_upto_region 1 with fail
      have T1 := Lib.hid (((T0.out.alloc (.cells z9 40)).alloc (.cells z5 42)))
      have H1 := Lib.hid (((BoxAt.newAt (w) z9 40 (w.heap.size) (by first | omega | (simp; done) | (simp; omega))).alloc (.cells z5 42)))
      have F1 := Lib.hid ((BoxAt.newAt ((w).alloc (.cells z9 40)) z5 42 (w.heap.size + 1) (by first | omega | (simp; done) | (simp; omega))))
      have O1 := Lib.hid (((O0.out.alloc (.cells z9 40)).alloc (.cells z5 42)))
      have B1 := Lib.hid ((bel_alloc (bel_alloc HB0.out (.cells z9 40)) (.cells z5 42)))
      have K1 := Lib.hid (((K0.out.alloc (.cells z9 40)).alloc (.cells z5 42)))
      obtain ⟨g1, hg1⟩ : ∃ g1, g1 = w.heap.size := ⟨_, rfl⟩
      obtain ⟨W1, hW1⟩ : ∃ W1, W1 = ((w).alloc (.cells z9 40)).alloc (.cells z5 42) := ⟨_, rfl⟩
      have hs1 : g1 + 1 + 1 ≤ W1.heap.size := by rw [hW1, hg1]; simp
      rw [← hW1] at T1 H1 F1 O1 B1 K1 ⊢
      have hb1 : w.heap.size ≤ g1 := by omega
      rw [← hg1] at H1 F1 ⊢
      clear hg1
      clear hW1 T0 O0 HB0 K0
      go_wp2_with fail
      refine (HFD.out _ B1.out (by first | omega | (simp; done) | (simp; omega)) O1.out T1.out).mono ?_
      rintro e w2 ⟨f2, c2, rfl, qT2, qO2, qW2⟩
      have hz2 := qW2.size
      have T2 := Lib.hid (show BoxAt w2 (tb) #[.slice f l c, .bool on, .int .i64 tf, .int .i64 tg, .slice f2 (R.length + Q.length) c2, .bool on1, .int .i64 of1, .int .i64 og1, .int .i64 pg, .int .i64 acc1, .int .i64 cur, .int .i64 lv] 58 from qT2)
      have H2 := Lib.hid ((qW2.box H1.out (by decide) (show g1 ≠ tb by omega)))
      have F2 := Lib.hid ((qW2.box F1.out (by decide) (show g1 + 1 ≠ tb by omega)))
      have O2 := Lib.hid (show OwnI w2 (B) (.slice f2 (R.length + Q.length) c2) (R ++ Q) from qO2)
      have B2 := Lib.hid ((qW2.under B1.out (by first | omega | (simp; done) | (simp; omega)) (show w0.heap.size ≤ tb by omega) (show w0.heap.size ≤ B by omega)))
      have K2 := Lib.hid ((K1.out.trans qW2))
      skip
      have hs2 : g1 + 1 + 1 ≤ w2.heap.size := by omega
      clear T1 H1 F1 O1 B1 K1 hs1 qT2 qO2 qW2 hz2
      unfold hitV fltV
      simp only
      go_upto_region 2 with fail
      have T3 := Lib.hid (((T2.out.alloc (.cells #[.int .i64 hf, .int .i64 hm, .bool hr, .bool hw, .bool hx, .bool ha, .bool hn, .int .i64 hs, .int .i64 hl] 40)).alloc (.cells #[.int .i64 fk, .int .i64 fs, .int .i64 fl, .bool fw, .int .i64 fp] 42)))
      have H3 := Lib.hid (((H2.out.alloc (.cells #[.int .i64 hf, .int .i64 hm, .bool hr, .bool hw, .bool hx, .bool ha, .bool hn, .int .i64 hs, .int .i64 hl] 40)).alloc (.cells #[.int .i64 fk, .int .i64 fs, .int .i64 fl, .bool fw, .int .i64 fp] 42)))
      have F3 := Lib.hid (((F2.out.alloc (.cells #[.int .i64 hf, .int .i64 hm, .bool hr, .bool hw, .bool hx, .bool ha, .bool hn, .int .i64 hs, .int .i64 hl] 40)).alloc (.cells #[.int .i64 fk, .int .i64 fs, .int .i64 fl, .bool fw, .int .i64 fp] 42)))
      have G3 := Lib.hid (((BoxAt.newAt (w2) #[.int .i64 hf, .int .i64 hm, .bool hr, .bool hw, .bool hx, .bool ha, .bool hn, .int .i64 hs, .int .i64 hl] 40 (w2.heap.size) (by first | omega | (simp; done) | (simp; omega))).alloc (.cells #[.int .i64 fk, .int .i64 fs, .int .i64 fl, .bool fw, .int .i64 fp] 42)))
      have J3 := Lib.hid ((BoxAt.newAt ((w2).alloc (.cells #[.int .i64 hf, .int .i64 hm, .bool hr, .bool hw, .bool hx, .bool ha, .bool hn, .int .i64 hs, .int .i64 hl] 40)) #[.int .i64 fk, .int .i64 fs, .int .i64 fl, .bool fw, .int .i64 fp] 42 (w2.heap.size + 1) (by first | omega | (simp; done) | (simp; omega))))
      have O3 := Lib.hid (((O2.out.alloc (.cells #[.int .i64 hf, .int .i64 hm, .bool hr, .bool hw, .bool hx, .bool ha, .bool hn, .int .i64 hs, .int .i64 hl] 40)).alloc (.cells #[.int .i64 fk, .int .i64 fs, .int .i64 fl, .bool fw, .int .i64 fp] 42)))
      have B3 := Lib.hid ((bel_alloc (bel_alloc B2.out (.cells #[.int .i64 hf, .int .i64 hm, .bool hr, .bool hw, .bool hx, .bool ha, .bool hn, .int .i64 hs, .int .i64 hl] 40)) (.cells #[.int .i64 fk, .int .i64 fs, .int .i64 fl, .bool fw, .int .i64 fp] 42)))
      have K3 := Lib.hid (((K2.out.alloc (.cells #[.int .i64 hf, .int .i64 hm, .bool hr, .bool hw, .bool hx, .bool ha, .bool hn, .int .i64 hs, .int .i64 hl] 40)).alloc (.cells #[.int .i64 fk, .int .i64 fs, .int .i64 fl, .bool fw, .int .i64 fp] 42)))
      obtain ⟨g3, hg3⟩ : ∃ g3, g3 = w2.heap.size := ⟨_, rfl⟩
      obtain ⟨W3, hW3⟩ : ∃ W3, W3 = ((w2).alloc (.cells #[.int .i64 hf, .int .i64 hm, .bool hr, .bool hw, .bool hx, .bool ha, .bool hn, .int .i64 hs, .int .i64 hl] 40)).alloc (.cells #[.int .i64 fk, .int .i64 fs, .int .i64 fl, .bool fw, .int .i64 fp] 42) := ⟨_, rfl⟩
      have hs3 : g3 + 1 + 1 ≤ W3.heap.size := by rw [hW3, hg3]; simp
      rw [← hW3] at T3 H3 F3 G3 J3 O3 B3 K3 ⊢
      have hb3 : g1 + 1 + 1 ≤ g3 := by omega
      rw [← hg3] at G3 J3 ⊢
      clear hg3
      clear hW3 T2 H2 F2 O2 B2 K2 hs2
      have Jc0 := J3.out.get 0 (.int .i64 fk) rfl
      have Jc1 := J3.out.get 1 (.int .i64 fs) rfl
      have Jc2 := J3.out.get 2 (.int .i64 fl) rfl
      have Jc3 := J3.out.get 3 (.bool fw) rfl
      have Jc4 := J3.out.get 4 (.int .i64 fp) rfl
      go_wp2_with fail
      refine (HIF.out _ _ _ _ _ _).mono ?_
      rintro e w4 ⟨rfl, hb4⟩
      have hz4 := hb4.size
      have T4 := Lib.hid (T3.out.below hb4)
      have H4 := Lib.hid (H3.out.below hb4)
      have F4 := Lib.hid (F3.out.below hb4)
      have G4 := Lib.hid (G3.out.below hb4)
      have J4 := Lib.hid (J3.out.below hb4)
      have O4 := Lib.hid (O3.out.below hb4)
      have B4 := Lib.hid (bel_trans B3.out hb4)
      have K4 := Lib.hid (K3.out.step hb4)
      skip
      have hs4 : g3 + 1 + 1 ≤ w4.heap.size := by omega
      clear Jc0 Jc1 Jc2 Jc3 Jc4
      clear T3 H3 F3 G3 J3 O3 B3 K3 hs3 hb4 hz4
      have Gc2 := G4.out.get 2 (.bool hr) rfl
      have Gc3 := G4.out.get 3 (.bool hw) rfl
      have Gc4 := G4.out.get 4 (.bool hx) rfl
      have Gc5 := G4.out.get 5 (.bool ha) rfl
      have Gc6 := G4.out.get 6 (.bool hn) rfl
      have Gc7 := G4.out.get 7 (.int .i64 hs) rfl
      have Gc8 := G4.out.get 8 (.int .i64 hl) rfl
      go_wp2_with fail
      refine (HG.out _).mono ?_
      rintro e w5 ⟨rfl, hb5⟩
      have hz5 := hb5.size
      have T5 := Lib.hid (T4.out.below hb5)
      have H5 := Lib.hid (H4.out.below hb5)
      have F5 := Lib.hid (F4.out.below hb5)
      have G5 := Lib.hid (G4.out.below hb5)
      have J5 := Lib.hid (J4.out.below hb5)
      have O5 := Lib.hid (O4.out.below hb5)
      have B5 := Lib.hid (bel_trans B4.out hb5)
      have K5 := Lib.hid (K4.out.step hb5)
      skip
      have hs5 : g3 + 1 + 1 ≤ w5.heap.size := by omega
      clear Gc2 Gc3 Gc4 Gc5 Gc6 Gc7 Gc8
      clear T4 H4 F4 G4 J4 O4 B4 K4 hs4 hb5 hz5
      go_upto_region 5 with (refine wpList_storeB rfl 42 _ _ rfl (g3 + 1) #[.int .i64 gk, .int .i64 gs, .int .i64 gl, .bool gw, .int .i64 gp] _ 42 rfl rfl (by kernel_rfl) (by rfl) (by simp [Value.oneCell']) J5.out ?_)
      have T6 := Lib.hid ((T5.out.row (cs' := #[.int .i64 gk, .int .i64 gs, .int .i64 gl, .bool gw, .int .i64 gp]) (show tb ≠ g3 + 1 by omega)))
      have H6 := Lib.hid ((H5.out.row (cs' := #[.int .i64 gk, .int .i64 gs, .int .i64 gl, .bool gw, .int .i64 gp]) (show g1 ≠ g3 + 1 by omega)))
      have F6 := Lib.hid ((F5.out.row (cs' := #[.int .i64 gk, .int .i64 gs, .int .i64 gl, .bool gw, .int .i64 gp]) (show g1 + 1 ≠ g3 + 1 by omega)))
      have G6 := Lib.hid ((G5.out.row (cs' := #[.int .i64 gk, .int .i64 gs, .int .i64 gl, .bool gw, .int .i64 gp]) (show g3 ≠ g3 + 1 by omega)))
      have J6 := Lib.hid ((J5.out.put (cs' := #[.int .i64 gk, .int .i64 gs, .int .i64 gl, .bool gw, .int .i64 gp])))
      have O6 := Lib.hid ((O5.out.rowN (cs := #[.int .i64 gk, .int .i64 gs, .int .i64 gl, .bool gw, .int .i64 gp]) (O5.out.ne_box J5.out (by decide))))
      have B6 := Lib.hid ((Below.rowB (g := g3 + 1) B5.out (cs := #[.int .i64 gk, .int .i64 gs, .int .i64 gl, .bool gw, .int .i64 gp]) (show w0.heap.size ≤ g3 + 1 by omega)))
      have K6 := Lib.hid ((K5.out.row (g3 + 1) #[.int .i64 gk, .int .i64 gs, .int .i64 gl, .bool gw, .int .i64 gp] (show w.heap.size ≤ g3 + 1 by omega)))
      obtain ⟨W6, hW6⟩ : ∃ W6, W6 = (w5).setRow (g3 + 1) #[.int .i64 gk, .int .i64 gs, .int .i64 gl, .bool gw, .int .i64 gp] := ⟨_, rfl⟩
      have hs6 : g3 + 1 + 1 ≤ W6.heap.size := by rw [hW6]; first | exact hs5 | (simp; omega)
      rw [← hW6] at T6 H6 F6 G6 J6 O6 B6 K6 ⊢
      clear hW6 T5 H5 F5 G5 J5 O5 B5 K5 hs5
      have Jc0 := J6.out.get 0 (.int .i64 gk) rfl
      have Jc1 := J6.out.get 1 (.int .i64 gs) rfl
      have Jc2 := J6.out.get 2 (.int .i64 gl) rfl
      have Jc3 := J6.out.get 3 (.bool gw) rfl
      have Jc4 := J6.out.get 4 (.int .i64 gp) rfl
      go_wp2_with fail
      refine (HIF.out _ _ _ _ _ _).mono ?_
      rintro e w7 ⟨rfl, hb7⟩
      have hz7 := hb7.size
      have T7 := Lib.hid (T6.out.below hb7)
      have H7 := Lib.hid (H6.out.below hb7)
      have F7 := Lib.hid (F6.out.below hb7)
      have G7 := Lib.hid (G6.out.below hb7)
      have J7 := Lib.hid (J6.out.below hb7)
      have O7 := Lib.hid (O6.out.below hb7)
      have B7 := Lib.hid (bel_trans B6.out hb7)
      have K7 := Lib.hid (K6.out.step hb7)
      skip
      have hs7 : g3 + 1 + 1 ≤ w7.heap.size := by omega
      clear Jc0 Jc1 Jc2 Jc3 Jc4
      clear T6 H6 F6 G6 J6 O6 B6 K6 hs6 hb7 hz7
      have Gc1 := G7.out.get 1 (.int .i64 hm) rfl
      have Gz1 := G7.out.free 1
      go_upto_region 8 with fail
      clear Gc1 Gz1
      have T8 := Lib.hid ((T7.out.other ⟨g3, 1, none⟩ (.int .i64 mid) (show tb ≠ g3 by omega)))
      have H8 := Lib.hid ((H7.out.other ⟨g3, 1, none⟩ (.int .i64 mid) (show g1 ≠ g3 by omega)))
      have F8 := Lib.hid ((F7.out.other ⟨g3, 1, none⟩ (.int .i64 mid) (show g1 + 1 ≠ g3 by omega)))
      have G8 := Lib.hid ((G7.out.set 1 (.int .i64 mid) #[.int .i64 hf, .int .i64 mid, .bool hr, .bool hw, .bool hx, .bool ha, .bool hn, .int .i64 hs, .int .i64 hl] rfl))
      have J8 := Lib.hid ((J7.out.other ⟨g3, 1, none⟩ (.int .i64 mid) (show g3 + 1 ≠ g3 by omega)))
      have O8 := Lib.hid ((O7.out.otherN ⟨g3, 1, none⟩ (.int .i64 mid) (O7.out.ne_box G7.out (by decide))))
      have B8 := Lib.hid ((Below.setCell B7.out (p := ⟨g3, 1, none⟩) (show w0.heap.size ≤ g3 by omega) (.int .i64 mid)))
      have K8 := Lib.hid ((K7.out.high ⟨g3, 1, none⟩ (.int .i64 mid) (show w.heap.size ≤ g3 by omega)))
      obtain ⟨W8, hW8⟩ : ∃ W8, W8 = (w7).setCell ⟨g3, 1, none⟩ (.int .i64 mid) := ⟨_, rfl⟩
      have hs8 : g3 + 1 + 1 ≤ W8.heap.size := by rw [hW8]; first | (simp [World.setCell]; omega) | (simp [World.setCell, World.setRow]; omega) | exact hs7
      rw [← hW8] at T8 H8 F8 G8 J8 O8 B8 K8 ⊢
      clear hW8 T7 H7 F7 G7 J7 O7 B7 K7 hs7
      have Gc0 := G8.out.get 0 (.int .i64 hf) rfl
      have Gc1 := G8.out.get 1 (.int .i64 mid) rfl
      have Gc2 := G8.out.get 2 (.bool hr) rfl
      have Gc3 := G8.out.get 3 (.bool hw) rfl
      have Gc4 := G8.out.get 4 (.bool hx) rfl
      have Gc5 := G8.out.get 5 (.bool ha) rfl
      have Gc6 := G8.out.get 6 (.bool hn) rfl
      have Gc7 := G8.out.get 7 (.int .i64 hs) rfl
      have Gc8 := G8.out.get 8 (.int .i64 hl) rfl
      go_wp2_with (first | (refine wpList_storeB rfl 40 _ _ rfl (g1) #[.int .i64 hf, .int .i64 mid, .bool hr, .bool hw, .bool hx, .bool ha, .bool hn, .int .i64 hs, .int .i64 hl] _ 40 rfl rfl (by kernel_rfl) (by rfl) (by simp [Value.oneCell']) H8.out ?_) | (refine wpList_storeB rfl 42 _ _ rfl (g1 + 1) #[.int .i64 0, .int .i64 0, .int .i64 0, .bool false, .int .i64 0] _ 42 rfl rfl (by kernel_rfl) (by rfl) (by simp [Value.oneCell']) (F8.out.row (cs' := #[.int .i64 hf, .int .i64 mid, .bool hr, .bool hw, .bool hx, .bool ha, .bool hn, .int .i64 hs, .int .i64 hl]) (show g1 + 1 ≠ g1 by omega)) ?_))
      have RH := ((H8.out.put (cs' := #[.int .i64 hf, .int .i64 mid, .bool hr, .bool hw, .bool hx, .bool ha, .bool hn, .int .i64 hs, .int .i64 hl])).row (cs' := #[.int .i64 0, .int .i64 0, .int .i64 0, .bool false, .int .i64 0]) (show g1 ≠ g1 + 1 by omega))
      have RF := ((F8.out.row (cs' := #[.int .i64 hf, .int .i64 mid, .bool hr, .bool hw, .bool hx, .bool ha, .bool hn, .int .i64 hs, .int .i64 hl]) (show g1 + 1 ≠ g1 by omega)).put (cs' := #[.int .i64 0, .int .i64 0, .int .i64 0, .bool false, .int .i64 0]))
      refine bodyPost_ret (v := .tuple #[.agg #[.int .i64 hf, .int .i64 mid, .bool hr, .bool hw, .bool hx, .bool ha, .bool hn, .int .i64 hs, .int .i64 hl], .agg #[.int .i64 0, .int .i64 0, .int .i64 0, .bool false, .int .i64 0]]) (by simp [results, Tryz.results34, go_sem, RH.get 0 (.int .i64 hf) rfl, RH.get 1 (.int .i64 mid) rfl, RH.get 2 (.bool hr) rfl, RH.get 3 (.bool hw) rfl, RH.get 4 (.bool hx) rfl, RH.get 5 (.bool ha) rfl, RH.get 6 (.bool hn) rfl, RH.get 7 (.int .i64 hs) rfl, RH.get 8 (.int .i64 hl) rfl, RF.get 0 (.int .i64 0) rfl, RF.get 1 (.int .i64 0) rfl, RF.get 2 (.int .i64 0) rfl, RF.get 3 (.bool false) rfl, RF.get 4 (.int .i64 0) rfl]) rfl ?_
      exact ⟨f2, c2, rfl, ((T8.out.row (cs' := #[.int .i64 hf, .int .i64 mid, .bool hr, .bool hw, .bool hx, .bool ha, .bool hn, .int .i64 hs, .int .i64 hl]) (show tb ≠ g1 by omega)).row (cs' := #[.int .i64 0, .int .i64 0, .int .i64 0, .bool false, .int .i64 0]) (show tb ≠ g1 + 1 by omega)), ((O8.out.rowN (cs := #[.int .i64 hf, .int .i64 mid, .bool hr, .bool hw, .bool hx, .bool ha, .bool hn, .int .i64 hs, .int .i64 hl]) (O8.out.ne_box H8.out (by decide))).rowN (cs := #[.int .i64 0, .int .i64 0, .int .i64 0, .bool false, .int .i64 0]) (O8.out.ne_box F8.out (by decide))), ((K8.out.row (g1) #[.int .i64 hf, .int .i64 mid, .bool hr, .bool hw, .bool hx, .bool ha, .bool hn, .int .i64 hs, .int .i64 hl] (show w.heap.size ≤ g1 by omega)).row (g1 + 1) #[.int .i64 0, .int .i64 0, .int .i64 0, .bool false, .int .i64 0] (show w.heap.size ≤ g1 + 1 by omega))⟩
    · rw [if_neg hg0]
      have dg : (gk != 0) = true := by simp [hg0]
      clear hg0
      go_enter Tryz.func34, Tryz.ntmps34
      go_upto_region 1 with fail
      have T1 := Lib.hid (((T0.out.alloc (.cells z9 40)).alloc (.cells z5 42)))
      have H1 := Lib.hid (((BoxAt.newAt (w) z9 40 (w.heap.size) (by first | omega | (simp; done) | (simp; omega))).alloc (.cells z5 42)))
      have F1 := Lib.hid ((BoxAt.newAt ((w).alloc (.cells z9 40)) z5 42 (w.heap.size + 1) (by first | omega | (simp; done) | (simp; omega))))
      have O1 := Lib.hid (((O0.out.alloc (.cells z9 40)).alloc (.cells z5 42)))
      have B1 := Lib.hid ((bel_alloc (bel_alloc HB0.out (.cells z9 40)) (.cells z5 42)))
      have K1 := Lib.hid (((K0.out.alloc (.cells z9 40)).alloc (.cells z5 42)))
      obtain ⟨g1, hg1⟩ : ∃ g1, g1 = w.heap.size := ⟨_, rfl⟩
      obtain ⟨W1, hW1⟩ : ∃ W1, W1 = ((w).alloc (.cells z9 40)).alloc (.cells z5 42) := ⟨_, rfl⟩
      have hs1 : g1 + 1 + 1 ≤ W1.heap.size := by rw [hW1, hg1]; simp
      rw [← hW1] at T1 H1 F1 O1 B1 K1 ⊢
      have hb1 : w.heap.size ≤ g1 := by omega
      rw [← hg1] at H1 F1 ⊢
      clear hg1
      clear hW1 T0 O0 HB0 K0
      go_wp2_with fail
      refine (HFD.out _ B1.out (by first | omega | (simp; done) | (simp; omega)) O1.out T1.out).mono ?_
      rintro e w2 ⟨f2, c2, rfl, qT2, qO2, qW2⟩
      have hz2 := qW2.size
      have T2 := Lib.hid (show BoxAt w2 (tb) #[.slice f l c, .bool on, .int .i64 tf, .int .i64 tg, .slice f2 (R.length + Q.length) c2, .bool on1, .int .i64 of1, .int .i64 og1, .int .i64 pg, .int .i64 acc1, .int .i64 cur, .int .i64 lv] 58 from qT2)
      have H2 := Lib.hid ((qW2.box H1.out (by decide) (show g1 ≠ tb by omega)))
      have F2 := Lib.hid ((qW2.box F1.out (by decide) (show g1 + 1 ≠ tb by omega)))
      have O2 := Lib.hid (show OwnI w2 (B) (.slice f2 (R.length + Q.length) c2) (R ++ Q) from qO2)
      have B2 := Lib.hid ((qW2.under B1.out (by first | omega | (simp; done) | (simp; omega)) (show w0.heap.size ≤ tb by omega) (show w0.heap.size ≤ B by omega)))
      have K2 := Lib.hid ((K1.out.trans qW2))
      skip
      have hs2 : g1 + 1 + 1 ≤ w2.heap.size := by omega
      clear T1 H1 F1 O1 B1 K1 hs1 qT2 qO2 qW2 hz2
      unfold hitV fltV
      simp only
      go_upto_region 2 with fail
      have T3 := Lib.hid (((T2.out.alloc (.cells #[.int .i64 hf, .int .i64 hm, .bool hr, .bool hw, .bool hx, .bool ha, .bool hn, .int .i64 hs, .int .i64 hl] 40)).alloc (.cells #[.int .i64 fk, .int .i64 fs, .int .i64 fl, .bool fw, .int .i64 fp] 42)))
      have H3 := Lib.hid (((H2.out.alloc (.cells #[.int .i64 hf, .int .i64 hm, .bool hr, .bool hw, .bool hx, .bool ha, .bool hn, .int .i64 hs, .int .i64 hl] 40)).alloc (.cells #[.int .i64 fk, .int .i64 fs, .int .i64 fl, .bool fw, .int .i64 fp] 42)))
      have F3 := Lib.hid (((F2.out.alloc (.cells #[.int .i64 hf, .int .i64 hm, .bool hr, .bool hw, .bool hx, .bool ha, .bool hn, .int .i64 hs, .int .i64 hl] 40)).alloc (.cells #[.int .i64 fk, .int .i64 fs, .int .i64 fl, .bool fw, .int .i64 fp] 42)))
      have G3 := Lib.hid (((BoxAt.newAt (w2) #[.int .i64 hf, .int .i64 hm, .bool hr, .bool hw, .bool hx, .bool ha, .bool hn, .int .i64 hs, .int .i64 hl] 40 (w2.heap.size) (by first | omega | (simp; done) | (simp; omega))).alloc (.cells #[.int .i64 fk, .int .i64 fs, .int .i64 fl, .bool fw, .int .i64 fp] 42)))
      have J3 := Lib.hid ((BoxAt.newAt ((w2).alloc (.cells #[.int .i64 hf, .int .i64 hm, .bool hr, .bool hw, .bool hx, .bool ha, .bool hn, .int .i64 hs, .int .i64 hl] 40)) #[.int .i64 fk, .int .i64 fs, .int .i64 fl, .bool fw, .int .i64 fp] 42 (w2.heap.size + 1) (by first | omega | (simp; done) | (simp; omega))))
      have O3 := Lib.hid (((O2.out.alloc (.cells #[.int .i64 hf, .int .i64 hm, .bool hr, .bool hw, .bool hx, .bool ha, .bool hn, .int .i64 hs, .int .i64 hl] 40)).alloc (.cells #[.int .i64 fk, .int .i64 fs, .int .i64 fl, .bool fw, .int .i64 fp] 42)))
      have B3 := Lib.hid ((bel_alloc (bel_alloc B2.out (.cells #[.int .i64 hf, .int .i64 hm, .bool hr, .bool hw, .bool hx, .bool ha, .bool hn, .int .i64 hs, .int .i64 hl] 40)) (.cells #[.int .i64 fk, .int .i64 fs, .int .i64 fl, .bool fw, .int .i64 fp] 42)))
      have K3 := Lib.hid (((K2.out.alloc (.cells #[.int .i64 hf, .int .i64 hm, .bool hr, .bool hw, .bool hx, .bool ha, .bool hn, .int .i64 hs, .int .i64 hl] 40)).alloc (.cells #[.int .i64 fk, .int .i64 fs, .int .i64 fl, .bool fw, .int .i64 fp] 42)))
      obtain ⟨g3, hg3⟩ : ∃ g3, g3 = w2.heap.size := ⟨_, rfl⟩
      obtain ⟨W3, hW3⟩ : ∃ W3, W3 = ((w2).alloc (.cells #[.int .i64 hf, .int .i64 hm, .bool hr, .bool hw, .bool hx, .bool ha, .bool hn, .int .i64 hs, .int .i64 hl] 40)).alloc (.cells #[.int .i64 fk, .int .i64 fs, .int .i64 fl, .bool fw, .int .i64 fp] 42) := ⟨_, rfl⟩
      have hs3 : g3 + 1 + 1 ≤ W3.heap.size := by rw [hW3, hg3]; simp
      rw [← hW3] at T3 H3 F3 G3 J3 O3 B3 K3 ⊢
      have hb3 : g1 + 1 + 1 ≤ g3 := by omega
      rw [← hg3] at G3 J3 ⊢
      clear hg3
      clear hW3 T2 H2 F2 O2 B2 K2 hs2
      have Jc0 := J3.out.get 0 (.int .i64 fk) rfl
      have Jc1 := J3.out.get 1 (.int .i64 fs) rfl
      have Jc2 := J3.out.get 2 (.int .i64 fl) rfl
      have Jc3 := J3.out.get 3 (.bool fw) rfl
      have Jc4 := J3.out.get 4 (.int .i64 fp) rfl
      go_wp2_with fail
      refine (HIF.out _ _ _ _ _ _).mono ?_
      rintro e w4 ⟨rfl, hb4⟩
      have hz4 := hb4.size
      have T4 := Lib.hid (T3.out.below hb4)
      have H4 := Lib.hid (H3.out.below hb4)
      have F4 := Lib.hid (F3.out.below hb4)
      have G4 := Lib.hid (G3.out.below hb4)
      have J4 := Lib.hid (J3.out.below hb4)
      have O4 := Lib.hid (O3.out.below hb4)
      have B4 := Lib.hid (bel_trans B3.out hb4)
      have K4 := Lib.hid (K3.out.step hb4)
      skip
      have hs4 : g3 + 1 + 1 ≤ w4.heap.size := by omega
      clear Jc0 Jc1 Jc2 Jc3 Jc4
      clear T3 H3 F3 G3 J3 O3 B3 K3 hs3 hb4 hz4
      have Gc2 := G4.out.get 2 (.bool hr) rfl
      have Gc3 := G4.out.get 3 (.bool hw) rfl
      have Gc4 := G4.out.get 4 (.bool hx) rfl
      have Gc5 := G4.out.get 5 (.bool ha) rfl
      have Gc6 := G4.out.get 6 (.bool hn) rfl
      have Gc7 := G4.out.get 7 (.int .i64 hs) rfl
      have Gc8 := G4.out.get 8 (.int .i64 hl) rfl
      go_wp2_with fail
      refine (HG.out _).mono ?_
      rintro e w5 ⟨rfl, hb5⟩
      have hz5 := hb5.size
      have T5 := Lib.hid (T4.out.below hb5)
      have H5 := Lib.hid (H4.out.below hb5)
      have F5 := Lib.hid (F4.out.below hb5)
      have G5 := Lib.hid (G4.out.below hb5)
      have J5 := Lib.hid (J4.out.below hb5)
      have O5 := Lib.hid (O4.out.below hb5)
      have B5 := Lib.hid (bel_trans B4.out hb5)
      have K5 := Lib.hid (K4.out.step hb5)
      skip
      have hs5 : g3 + 1 + 1 ≤ w5.heap.size := by omega
      clear Gc2 Gc3 Gc4 Gc5 Gc6 Gc7 Gc8
      clear T4 H4 F4 G4 J4 O4 B4 K4 hs4 hb5 hz5
      go_upto_region 5 with (refine wpList_storeB rfl 42 _ _ rfl (g3 + 1) #[.int .i64 gk, .int .i64 gs, .int .i64 gl, .bool gw, .int .i64 gp] _ 42 rfl rfl (by kernel_rfl) (by rfl) (by simp [Value.oneCell']) J5.out ?_)
      have T6 := Lib.hid ((T5.out.row (cs' := #[.int .i64 gk, .int .i64 gs, .int .i64 gl, .bool gw, .int .i64 gp]) (show tb ≠ g3 + 1 by omega)))
      have H6 := Lib.hid ((H5.out.row (cs' := #[.int .i64 gk, .int .i64 gs, .int .i64 gl, .bool gw, .int .i64 gp]) (show g1 ≠ g3 + 1 by omega)))
      have F6 := Lib.hid ((F5.out.row (cs' := #[.int .i64 gk, .int .i64 gs, .int .i64 gl, .bool gw, .int .i64 gp]) (show g1 + 1 ≠ g3 + 1 by omega)))
      have G6 := Lib.hid ((G5.out.row (cs' := #[.int .i64 gk, .int .i64 gs, .int .i64 gl, .bool gw, .int .i64 gp]) (show g3 ≠ g3 + 1 by omega)))
      have J6 := Lib.hid ((J5.out.put (cs' := #[.int .i64 gk, .int .i64 gs, .int .i64 gl, .bool gw, .int .i64 gp])))
      have O6 := Lib.hid ((O5.out.rowN (cs := #[.int .i64 gk, .int .i64 gs, .int .i64 gl, .bool gw, .int .i64 gp]) (O5.out.ne_box J5.out (by decide))))
      have B6 := Lib.hid ((Below.rowB (g := g3 + 1) B5.out (cs := #[.int .i64 gk, .int .i64 gs, .int .i64 gl, .bool gw, .int .i64 gp]) (show w0.heap.size ≤ g3 + 1 by omega)))
      have K6 := Lib.hid ((K5.out.row (g3 + 1) #[.int .i64 gk, .int .i64 gs, .int .i64 gl, .bool gw, .int .i64 gp] (show w.heap.size ≤ g3 + 1 by omega)))
      obtain ⟨W6, hW6⟩ : ∃ W6, W6 = (w5).setRow (g3 + 1) #[.int .i64 gk, .int .i64 gs, .int .i64 gl, .bool gw, .int .i64 gp] := ⟨_, rfl⟩
      have hs6 : g3 + 1 + 1 ≤ W6.heap.size := by rw [hW6]; first | exact hs5 | (simp; omega)
      rw [← hW6] at T6 H6 F6 G6 J6 O6 B6 K6 ⊢
      clear hW6 T5 H5 F5 G5 J5 O5 B5 K5 hs5
      have Jc0 := J6.out.get 0 (.int .i64 gk) rfl
      have Jc1 := J6.out.get 1 (.int .i64 gs) rfl
      have Jc2 := J6.out.get 2 (.int .i64 gl) rfl
      have Jc3 := J6.out.get 3 (.bool gw) rfl
      have Jc4 := J6.out.get 4 (.int .i64 gp) rfl
      go_wp2_with fail
      refine (HIF.out _ _ _ _ _ _).mono ?_
      rintro e w7 ⟨rfl, hb7⟩
      have hz7 := hb7.size
      have T7 := Lib.hid (T6.out.below hb7)
      have H7 := Lib.hid (H6.out.below hb7)
      have F7 := Lib.hid (F6.out.below hb7)
      have G7 := Lib.hid (G6.out.below hb7)
      have J7 := Lib.hid (J6.out.below hb7)
      have O7 := Lib.hid (O6.out.below hb7)
      have B7 := Lib.hid (bel_trans B6.out hb7)
      have K7 := Lib.hid (K6.out.step hb7)
      skip
      have hs7 : g3 + 1 + 1 ≤ w7.heap.size := by omega
      clear Jc0 Jc1 Jc2 Jc3 Jc4
      clear T6 H6 F6 G6 J6 O6 B6 K6 hs6 hb7 hz7
      go_upto_region 6 with fail
      refine wp_region_held_drew (S := (fun w' => BoxAt w' (g3 + 1) #[.int .i64 gk, .int .i64 gs, .int .i64 gl, .bool gw, .int .i64 gp] 42)) (by kernel_rfl) (J7.out.drew) (fun hS => ?_)
      refine tkR 0 32 (v := .agg #[.int .i64 0, .int .i64 0, .bool false, .bool false, .bool false, .bool false, .bool false, .int .i64 0, .int .i64 0]) rfl hS (fun _ _ => by kernel_rfl) ?_
      refine tkR 1 33 (v := .agg #[.int .i64 gk, .int .i64 gs, .int .i64 gl, .bool gw, .int .i64 gp]) rfl hS (fun _ h => run_ldN 42 (.tmp 9) (g3 + 1) 0 (by kernel_rfl) (by kernel_rfl) Tryz.underlying42 rfl (by kernel_rfl) ((h).sub 0 _ rfl)) ?_
      try simp only [Act.put, List.setIfInBounds_toArray, List.set_cons_zero, List.set_cons_succ]
      refine wpAnyH_ready (rs := [2]) (by kernel_rfl) (by simp) ?_
      refine AllReadyH.cons (o := ⟨none, _, _, _, _, _⟩) rfl (fun K hK => ?_) AllReadyH.nil
      refine step_storeB rfl 40 _ _ rfl _ _ _ 40 rfl rfl (by kernel_rfl) (by rfl) (by simp [Value.oneCell']) (H7.out.drew) ?_
      refine hK.out _ _ ?_ (fun hS' => ?_)
      · exact (hS.row (show g3 + 1 ≠ g1 by omega))
      clear hK K hS
      have hS := hS'
      clear hS'
      try simp only [Act.put]
      try simp only [Act.put, List.setIfInBounds_toArray, List.set_cons_zero, List.set_cons_succ]
      refine wpAnyH_ready (rs := [3]) (by kernel_rfl) (by simp) ?_
      refine AllReadyH.cons (o := ⟨none, _, _, _, _, _⟩) rfl (fun K hK => ?_) AllReadyH.nil
      refine step_storeB rfl 42 _ _ rfl _ _ _ 42 rfl rfl (by kernel_rfl) (by rfl) (by simp [Value.oneCell']) ((F7.out.drew).row (cs' := #[.int .i64 0, .int .i64 0, .bool false, .bool false, .bool false, .bool false, .bool false, .int .i64 0, .int .i64 0]) (show g1 + 1 ≠ g1 by omega)) ?_
      refine hK.out _ _ ?_ (fun hS' => ?_)
      · exact (hS.row (show g3 + 1 ≠ g1 + 1 by omega))
      clear hK K hS
      have hS := hS'
      clear hS'
      try simp only [Act.put]
      refine wpAnyH_done (by kernel_rfl) ?_ _
      try simp only [Act.put, List.setIfInBounds_toArray, List.set_cons_zero, List.set_cons_succ]
      have T8 := Lib.hid ((((T7.out.drew).row (cs' := #[.int .i64 0, .int .i64 0, .bool false, .bool false, .bool false, .bool false, .bool false, .int .i64 0, .int .i64 0]) (show tb ≠ g1 by omega)).row (cs' := #[.int .i64 gk, .int .i64 gs, .int .i64 gl, .bool gw, .int .i64 gp]) (show tb ≠ g1 + 1 by omega)))
      have H8 := Lib.hid ((((H7.out.drew).put (cs' := #[.int .i64 0, .int .i64 0, .bool false, .bool false, .bool false, .bool false, .bool false, .int .i64 0, .int .i64 0])).row (cs' := #[.int .i64 gk, .int .i64 gs, .int .i64 gl, .bool gw, .int .i64 gp]) (show g1 ≠ g1 + 1 by omega)))
      have F8 := Lib.hid ((((F7.out.drew).row (cs' := #[.int .i64 0, .int .i64 0, .bool false, .bool false, .bool false, .bool false, .bool false, .int .i64 0, .int .i64 0]) (show g1 + 1 ≠ g1 by omega)).put (cs' := #[.int .i64 gk, .int .i64 gs, .int .i64 gl, .bool gw, .int .i64 gp])))
      have G8 := Lib.hid ((((G7.out.drew).row (cs' := #[.int .i64 0, .int .i64 0, .bool false, .bool false, .bool false, .bool false, .bool false, .int .i64 0, .int .i64 0]) (show g3 ≠ g1 by omega)).row (cs' := #[.int .i64 gk, .int .i64 gs, .int .i64 gl, .bool gw, .int .i64 gp]) (show g3 ≠ g1 + 1 by omega)))
      have J8 := Lib.hid ((((J7.out.drew).row (cs' := #[.int .i64 0, .int .i64 0, .bool false, .bool false, .bool false, .bool false, .bool false, .int .i64 0, .int .i64 0]) (show g3 + 1 ≠ g1 by omega)).row (cs' := #[.int .i64 gk, .int .i64 gs, .int .i64 gl, .bool gw, .int .i64 gp]) (show g3 + 1 ≠ g1 + 1 by omega)))
      have O8 := Lib.hid ((((O7.out.drew).rowN (cs := #[.int .i64 0, .int .i64 0, .bool false, .bool false, .bool false, .bool false, .bool false, .int .i64 0, .int .i64 0]) (O7.out.ne_box H7.out (by decide))).rowN (cs := #[.int .i64 gk, .int .i64 gs, .int .i64 gl, .bool gw, .int .i64 gp]) (O7.out.ne_box F7.out (by decide))))
      have B8 := Lib.hid ((Below.rowB (g := g1 + 1) (Below.rowB (g := g1) (Below.drew B7.out) (cs := #[.int .i64 0, .int .i64 0, .bool false, .bool false, .bool false, .bool false, .bool false, .int .i64 0, .int .i64 0]) (show w0.heap.size ≤ g1 by omega)) (cs := #[.int .i64 gk, .int .i64 gs, .int .i64 gl, .bool gw, .int .i64 gp]) (show w0.heap.size ≤ g1 + 1 by omega)))
      have K8 := Lib.hid ((((K7.out.drew).row (g1) #[.int .i64 0, .int .i64 0, .bool false, .bool false, .bool false, .bool false, .bool false, .int .i64 0, .int .i64 0] (show w.heap.size ≤ g1 by omega)).row (g1 + 1) #[.int .i64 gk, .int .i64 gs, .int .i64 gl, .bool gw, .int .i64 gp] (show w.heap.size ≤ g1 + 1 by omega)))
      obtain ⟨W8, hW8⟩ : ∃ W8, W8 = (((w7).drew).setRow (g1) #[.int .i64 0, .int .i64 0, .bool false, .bool false, .bool false, .bool false, .bool false, .int .i64 0, .int .i64 0]).setRow (g1 + 1) #[.int .i64 gk, .int .i64 gs, .int .i64 gl, .bool gw, .int .i64 gp] := ⟨_, rfl⟩
      have hs8 : g3 + 1 + 1 ≤ W8.heap.size := by rw [hW8]; first | exact hs7 | (simp; omega)
      rw [← hW8] at T8 H8 F8 G8 J8 O8 B8 K8 ⊢
      clear hW8 T7 H7 F7 G7 J7 O7 B7 K7 hs7
      go_wp2
      have RH := H8.out
      have RF := F8.out
      refine bodyPost_ret (v := .tuple #[.agg #[.int .i64 0, .int .i64 0, .bool false, .bool false, .bool false, .bool false, .bool false, .int .i64 0, .int .i64 0], .agg #[.int .i64 gk, .int .i64 gs, .int .i64 gl, .bool gw, .int .i64 gp]]) (by simp [results, Tryz.results34, go_sem, RH.get 0 (.int .i64 0) rfl, RH.get 1 (.int .i64 0) rfl, RH.get 2 (.bool false) rfl, RH.get 3 (.bool false) rfl, RH.get 4 (.bool false) rfl, RH.get 5 (.bool false) rfl, RH.get 6 (.bool false) rfl, RH.get 7 (.int .i64 0) rfl, RH.get 8 (.int .i64 0) rfl, RF.get 0 (.int .i64 gk) rfl, RF.get 1 (.int .i64 gs) rfl, RF.get 2 (.int .i64 gl) rfl, RF.get 3 (.bool gw) rfl, RF.get 4 (.int .i64 gp) rfl]) rfl ?_
      exact ⟨f2, c2, rfl, T8.out, O8.out, K8.out⟩
  · rw [if_neg hk0]
    have df : (fk != 0) = true := by simp [hk0]
    clear hk0 HG
    go_enter Tryz.func34, Tryz.ntmps34
    go_upto_region 1 with fail
    have T1 := Lib.hid (((T0.out.alloc (.cells z9 40)).alloc (.cells z5 42)))
    have H1 := Lib.hid (((BoxAt.newAt (w) z9 40 (w.heap.size) (by first | omega | (simp; done) | (simp; omega))).alloc (.cells z5 42)))
    have F1 := Lib.hid ((BoxAt.newAt ((w).alloc (.cells z9 40)) z5 42 (w.heap.size + 1) (by first | omega | (simp; done) | (simp; omega))))
    have O1 := Lib.hid (((O0.out.alloc (.cells z9 40)).alloc (.cells z5 42)))
    have B1 := Lib.hid ((bel_alloc (bel_alloc HB0.out (.cells z9 40)) (.cells z5 42)))
    have K1 := Lib.hid (((K0.out.alloc (.cells z9 40)).alloc (.cells z5 42)))
    obtain ⟨g1, hg1⟩ : ∃ g1, g1 = w.heap.size := ⟨_, rfl⟩
    obtain ⟨W1, hW1⟩ : ∃ W1, W1 = ((w).alloc (.cells z9 40)).alloc (.cells z5 42) := ⟨_, rfl⟩
    have hs1 : g1 + 1 + 1 ≤ W1.heap.size := by rw [hW1, hg1]; simp
    rw [← hW1] at T1 H1 F1 O1 B1 K1 ⊢
    have hb1 : w.heap.size ≤ g1 := by omega
    rw [← hg1] at H1 F1 ⊢
    clear hg1
    clear hW1 T0 O0 HB0 K0
    go_wp2_with fail
    refine (HFD.out _ B1.out (by first | omega | (simp; done) | (simp; omega)) O1.out T1.out).mono ?_
    rintro e w2 ⟨f2, c2, rfl, qT2, qO2, qW2⟩
    have hz2 := qW2.size
    have T2 := Lib.hid (show BoxAt w2 (tb) #[.slice f l c, .bool on, .int .i64 tf, .int .i64 tg, .slice f2 (R.length + Q.length) c2, .bool on1, .int .i64 of1, .int .i64 og1, .int .i64 pg, .int .i64 acc1, .int .i64 cur, .int .i64 lv] 58 from qT2)
    have H2 := Lib.hid ((qW2.box H1.out (by decide) (show g1 ≠ tb by omega)))
    have F2 := Lib.hid ((qW2.box F1.out (by decide) (show g1 + 1 ≠ tb by omega)))
    have O2 := Lib.hid (show OwnI w2 (B) (.slice f2 (R.length + Q.length) c2) (R ++ Q) from qO2)
    have B2 := Lib.hid ((qW2.under B1.out (by first | omega | (simp; done) | (simp; omega)) (show w0.heap.size ≤ tb by omega) (show w0.heap.size ≤ B by omega)))
    have K2 := Lib.hid ((K1.out.trans qW2))
    skip
    have hs2 : g1 + 1 + 1 ≤ w2.heap.size := by omega
    clear T1 H1 F1 O1 B1 K1 hs1 qT2 qO2 qW2 hz2
    unfold hitV fltV
    simp only
    go_upto_region 2 with fail
    have T3 := Lib.hid (((T2.out.alloc (.cells #[.int .i64 hf, .int .i64 hm, .bool hr, .bool hw, .bool hx, .bool ha, .bool hn, .int .i64 hs, .int .i64 hl] 40)).alloc (.cells #[.int .i64 fk, .int .i64 fs, .int .i64 fl, .bool fw, .int .i64 fp] 42)))
    have H3 := Lib.hid (((H2.out.alloc (.cells #[.int .i64 hf, .int .i64 hm, .bool hr, .bool hw, .bool hx, .bool ha, .bool hn, .int .i64 hs, .int .i64 hl] 40)).alloc (.cells #[.int .i64 fk, .int .i64 fs, .int .i64 fl, .bool fw, .int .i64 fp] 42)))
    have F3 := Lib.hid (((F2.out.alloc (.cells #[.int .i64 hf, .int .i64 hm, .bool hr, .bool hw, .bool hx, .bool ha, .bool hn, .int .i64 hs, .int .i64 hl] 40)).alloc (.cells #[.int .i64 fk, .int .i64 fs, .int .i64 fl, .bool fw, .int .i64 fp] 42)))
    have G3 := Lib.hid (((BoxAt.newAt (w2) #[.int .i64 hf, .int .i64 hm, .bool hr, .bool hw, .bool hx, .bool ha, .bool hn, .int .i64 hs, .int .i64 hl] 40 (w2.heap.size) (by first | omega | (simp; done) | (simp; omega))).alloc (.cells #[.int .i64 fk, .int .i64 fs, .int .i64 fl, .bool fw, .int .i64 fp] 42)))
    have J3 := Lib.hid ((BoxAt.newAt ((w2).alloc (.cells #[.int .i64 hf, .int .i64 hm, .bool hr, .bool hw, .bool hx, .bool ha, .bool hn, .int .i64 hs, .int .i64 hl] 40)) #[.int .i64 fk, .int .i64 fs, .int .i64 fl, .bool fw, .int .i64 fp] 42 (w2.heap.size + 1) (by first | omega | (simp; done) | (simp; omega))))
    have O3 := Lib.hid (((O2.out.alloc (.cells #[.int .i64 hf, .int .i64 hm, .bool hr, .bool hw, .bool hx, .bool ha, .bool hn, .int .i64 hs, .int .i64 hl] 40)).alloc (.cells #[.int .i64 fk, .int .i64 fs, .int .i64 fl, .bool fw, .int .i64 fp] 42)))
    have B3 := Lib.hid ((bel_alloc (bel_alloc B2.out (.cells #[.int .i64 hf, .int .i64 hm, .bool hr, .bool hw, .bool hx, .bool ha, .bool hn, .int .i64 hs, .int .i64 hl] 40)) (.cells #[.int .i64 fk, .int .i64 fs, .int .i64 fl, .bool fw, .int .i64 fp] 42)))
    have K3 := Lib.hid (((K2.out.alloc (.cells #[.int .i64 hf, .int .i64 hm, .bool hr, .bool hw, .bool hx, .bool ha, .bool hn, .int .i64 hs, .int .i64 hl] 40)).alloc (.cells #[.int .i64 fk, .int .i64 fs, .int .i64 fl, .bool fw, .int .i64 fp] 42)))
    obtain ⟨g3, hg3⟩ : ∃ g3, g3 = w2.heap.size := ⟨_, rfl⟩
    obtain ⟨W3, hW3⟩ : ∃ W3, W3 = ((w2).alloc (.cells #[.int .i64 hf, .int .i64 hm, .bool hr, .bool hw, .bool hx, .bool ha, .bool hn, .int .i64 hs, .int .i64 hl] 40)).alloc (.cells #[.int .i64 fk, .int .i64 fs, .int .i64 fl, .bool fw, .int .i64 fp] 42) := ⟨_, rfl⟩
    have hs3 : g3 + 1 + 1 ≤ W3.heap.size := by rw [hW3, hg3]; simp
    rw [← hW3] at T3 H3 F3 G3 J3 O3 B3 K3 ⊢
    have hb3 : g1 + 1 + 1 ≤ g3 := by omega
    rw [← hg3] at G3 J3 ⊢
    clear hg3
    clear hW3 T2 H2 F2 O2 B2 K2 hs2
    have Jc0 := J3.out.get 0 (.int .i64 fk) rfl
    have Jc1 := J3.out.get 1 (.int .i64 fs) rfl
    have Jc2 := J3.out.get 2 (.int .i64 fl) rfl
    have Jc3 := J3.out.get 3 (.bool fw) rfl
    have Jc4 := J3.out.get 4 (.int .i64 fp) rfl
    go_wp2_with fail
    refine (HIF.out _ _ _ _ _ _).mono ?_
    rintro e w4 ⟨rfl, hb4⟩
    have hz4 := hb4.size
    have T4 := Lib.hid (T3.out.below hb4)
    have H4 := Lib.hid (H3.out.below hb4)
    have F4 := Lib.hid (F3.out.below hb4)
    have G4 := Lib.hid (G3.out.below hb4)
    have J4 := Lib.hid (J3.out.below hb4)
    have O4 := Lib.hid (O3.out.below hb4)
    have B4 := Lib.hid (bel_trans B3.out hb4)
    have K4 := Lib.hid (K3.out.step hb4)
    skip
    have hs4 : g3 + 1 + 1 ≤ w4.heap.size := by omega
    clear Jc0 Jc1 Jc2 Jc3 Jc4
    clear T3 H3 F3 G3 J3 O3 B3 K3 hs3 hb4 hz4
    go_upto_region 3 with fail
    refine wp_region_held_drew (S := (fun w' => BoxAt w' (g3 + 1) #[.int .i64 fk, .int .i64 fs, .int .i64 fl, .bool fw, .int .i64 fp] 42)) (by kernel_rfl) (J4.out.drew) (fun hS => ?_)
    refine tkR 0 18 (v := .agg #[.int .i64 0, .int .i64 0, .bool false, .bool false, .bool false, .bool false, .bool false, .int .i64 0, .int .i64 0]) rfl hS (fun _ _ => by kernel_rfl) ?_
    refine tkR 1 19 (v := .agg #[.int .i64 fk, .int .i64 fs, .int .i64 fl, .bool fw, .int .i64 fp]) rfl hS (fun _ h => run_ldN 42 (.tmp 9) (g3 + 1) 0 (by kernel_rfl) (by kernel_rfl) Tryz.underlying42 rfl (by kernel_rfl) ((h).sub 0 _ rfl)) ?_
    try simp only [Act.put, List.setIfInBounds_toArray, List.set_cons_zero, List.set_cons_succ]
    refine wpAnyH_ready (rs := [2]) (by kernel_rfl) (by simp) ?_
    refine AllReadyH.cons (o := ⟨none, _, _, _, _, _⟩) rfl (fun K hK => ?_) AllReadyH.nil
    refine step_storeB rfl 40 _ _ rfl _ _ _ 40 rfl rfl (by kernel_rfl) (by rfl) (by simp [Value.oneCell']) (H4.out.drew) ?_
    refine hK.out _ _ ?_ (fun hS' => ?_)
    · exact (hS.row (show g3 + 1 ≠ g1 by omega))
    clear hK K hS
    have hS := hS'
    clear hS'
    try simp only [Act.put]
    try simp only [Act.put, List.setIfInBounds_toArray, List.set_cons_zero, List.set_cons_succ]
    refine wpAnyH_ready (rs := [3]) (by kernel_rfl) (by simp) ?_
    refine AllReadyH.cons (o := ⟨none, _, _, _, _, _⟩) rfl (fun K hK => ?_) AllReadyH.nil
    refine step_storeB rfl 42 _ _ rfl _ _ _ 42 rfl rfl (by kernel_rfl) (by rfl) (by simp [Value.oneCell']) ((F4.out.drew).row (cs' := #[.int .i64 0, .int .i64 0, .bool false, .bool false, .bool false, .bool false, .bool false, .int .i64 0, .int .i64 0]) (show g1 + 1 ≠ g1 by omega)) ?_
    refine hK.out _ _ ?_ (fun hS' => ?_)
    · exact (hS.row (show g3 + 1 ≠ g1 + 1 by omega))
    clear hK K hS
    have hS := hS'
    clear hS'
    try simp only [Act.put]
    refine wpAnyH_done (by kernel_rfl) ?_ _
    try simp only [Act.put, List.setIfInBounds_toArray, List.set_cons_zero, List.set_cons_succ]
    have T5 := Lib.hid ((((T4.out.drew).row (cs' := #[.int .i64 0, .int .i64 0, .bool false, .bool false, .bool false, .bool false, .bool false, .int .i64 0, .int .i64 0]) (show tb ≠ g1 by omega)).row (cs' := #[.int .i64 fk, .int .i64 fs, .int .i64 fl, .bool fw, .int .i64 fp]) (show tb ≠ g1 + 1 by omega)))
    have H5 := Lib.hid ((((H4.out.drew).put (cs' := #[.int .i64 0, .int .i64 0, .bool false, .bool false, .bool false, .bool false, .bool false, .int .i64 0, .int .i64 0])).row (cs' := #[.int .i64 fk, .int .i64 fs, .int .i64 fl, .bool fw, .int .i64 fp]) (show g1 ≠ g1 + 1 by omega)))
    have F5 := Lib.hid ((((F4.out.drew).row (cs' := #[.int .i64 0, .int .i64 0, .bool false, .bool false, .bool false, .bool false, .bool false, .int .i64 0, .int .i64 0]) (show g1 + 1 ≠ g1 by omega)).put (cs' := #[.int .i64 fk, .int .i64 fs, .int .i64 fl, .bool fw, .int .i64 fp])))
    have G5 := Lib.hid ((((G4.out.drew).row (cs' := #[.int .i64 0, .int .i64 0, .bool false, .bool false, .bool false, .bool false, .bool false, .int .i64 0, .int .i64 0]) (show g3 ≠ g1 by omega)).row (cs' := #[.int .i64 fk, .int .i64 fs, .int .i64 fl, .bool fw, .int .i64 fp]) (show g3 ≠ g1 + 1 by omega)))
    have J5 := Lib.hid ((((J4.out.drew).row (cs' := #[.int .i64 0, .int .i64 0, .bool false, .bool false, .bool false, .bool false, .bool false, .int .i64 0, .int .i64 0]) (show g3 + 1 ≠ g1 by omega)).row (cs' := #[.int .i64 fk, .int .i64 fs, .int .i64 fl, .bool fw, .int .i64 fp]) (show g3 + 1 ≠ g1 + 1 by omega)))
    have O5 := Lib.hid ((((O4.out.drew).rowN (cs := #[.int .i64 0, .int .i64 0, .bool false, .bool false, .bool false, .bool false, .bool false, .int .i64 0, .int .i64 0]) (O4.out.ne_box H4.out (by decide))).rowN (cs := #[.int .i64 fk, .int .i64 fs, .int .i64 fl, .bool fw, .int .i64 fp]) (O4.out.ne_box F4.out (by decide))))
    have B5 := Lib.hid ((Below.rowB (g := g1 + 1) (Below.rowB (g := g1) (Below.drew B4.out) (cs := #[.int .i64 0, .int .i64 0, .bool false, .bool false, .bool false, .bool false, .bool false, .int .i64 0, .int .i64 0]) (show w0.heap.size ≤ g1 by omega)) (cs := #[.int .i64 fk, .int .i64 fs, .int .i64 fl, .bool fw, .int .i64 fp]) (show w0.heap.size ≤ g1 + 1 by omega)))
    have K5 := Lib.hid ((((K4.out.drew).row (g1) #[.int .i64 0, .int .i64 0, .bool false, .bool false, .bool false, .bool false, .bool false, .int .i64 0, .int .i64 0] (show w.heap.size ≤ g1 by omega)).row (g1 + 1) #[.int .i64 fk, .int .i64 fs, .int .i64 fl, .bool fw, .int .i64 fp] (show w.heap.size ≤ g1 + 1 by omega)))
    obtain ⟨W5, hW5⟩ : ∃ W5, W5 = (((w4).drew).setRow (g1) #[.int .i64 0, .int .i64 0, .bool false, .bool false, .bool false, .bool false, .bool false, .int .i64 0, .int .i64 0]).setRow (g1 + 1) #[.int .i64 fk, .int .i64 fs, .int .i64 fl, .bool fw, .int .i64 fp] := ⟨_, rfl⟩
    have hs5 : g3 + 1 + 1 ≤ W5.heap.size := by rw [hW5]; first | exact hs4 | (simp; omega)
    rw [← hW5] at T5 H5 F5 G5 J5 O5 B5 K5 ⊢
    clear hW5 T4 H4 F4 G4 J4 O4 B4 K4 hs4
    go_wp2
    have RH := H5.out
    have RF := F5.out
    refine bodyPost_ret (v := .tuple #[.agg #[.int .i64 0, .int .i64 0, .bool false, .bool false, .bool false, .bool false, .bool false, .int .i64 0, .int .i64 0], .agg #[.int .i64 fk, .int .i64 fs, .int .i64 fl, .bool fw, .int .i64 fp]]) (by simp [results, Tryz.results34, go_sem, RH.get 0 (.int .i64 0) rfl, RH.get 1 (.int .i64 0) rfl, RH.get 2 (.bool false) rfl, RH.get 3 (.bool false) rfl, RH.get 4 (.bool false) rfl, RH.get 5 (.bool false) rfl, RH.get 6 (.bool false) rfl, RH.get 7 (.int .i64 0) rfl, RH.get 8 (.int .i64 0) rfl, RF.get 0 (.int .i64 fk) rfl, RF.get 1 (.int .i64 fs) rfl, RF.get 2 (.int .i64 fl) rfl, RF.get 3 (.bool fw) rfl, RF.get 4 (.int .i64 fp) rfl]) rfl ?_
    exact ⟨f2, c2, rfl, T5.out, O5.out, K5.out⟩
end
section
open Go.ChangeShapes Go.WideShapes Go.ChangeAt Go.RowKit Go.Deep

theorem step_pushIn {w : World} {ops : Array Oper} {o : Oper} {a : Act} {K : Act → World → Prop} {Q : Exit → Act → World → Prop} {E : Prop} (hgd : o.guard = none) (s x : Operand)
    (ho : o.op = .call { callee := .builtin .append, args := #[s, x], argTypes := #[25, 25] })
    (base n : Nat) (v : Value) (L : List Int) (hs : a.eval s = v) (hown : OwnI w base v L) (hn : n = L.length)
    (b c : Nat) (y : Int) (hx : a.eval x = .slice (some ⟨b, 0, none⟩) 1 c) (hy : w.cell? ⟨b, 0, none⟩ = some (.int .i64 y)) (hk : n ≤ 100000) (hbase : base ≤ w.heap.size)
    (h : ∀ f' c' w', OwnI w' base (.slice f' (n + 1) c') (L ++ [y]) → w.grownBy w' v.ownBlock → K (a.put o.dst (.slice f' (n + 1) c')) w') : if Region.wanted o (yielded ops a.tmps) = true then Oper.wp Tryz.prog o a w K Q else E := by
  subst hn
  exact step_pushI hgd s x ho base v L hs hown b c y hx hy hk hbase h
/-- 'append(s, x)' where it must grow: nothing that was there is written. -/
theorem wpList_growR {QT : Type} {K : RowK QT} {w : World} {ops : Array Oper} {rest : List Oper} {o : Oper} {a : Act} {QQ : Exit → Act → World → Prop} (hgd : o.guard = none) (s x : Operand)
    (ho : o.op = .call { callee := .builtin .append, args := #[s, x], argTypes := #[K.ts, K.ts] })
    (f : Option Addr) (n : Nat) (L : List QT) (hs : a.eval s = .slice f n n) (hn : n = L.length) (hf : f = none → n = 0)
    (hL : ∀ b, f = some b → ∀ j u, (rcells K L)[j]? = some u → w.cell? (b.add j) = some u)
    (b c : Nat) (y : QT) (hx : a.eval x = .slice (some ⟨b, 0, none⟩) 1 c) (hy : ∀ i, i < K.N → w.cell? ⟨b, i, none⟩ = (K.V y)[i]?) (hk : n ≤ 100000)
    (h : ∀ f' c' w', OwnR K w' w.heap.size (.slice f' (n + 1) c') (L ++ [y]) → Below w.heap.size w w' → wpList Tryz.prog ops QQ rest (a.put o.dst (.slice f' (n + 1) c')) w') : wpList Tryz.prog ops QQ (o :: rest) a w :=
  wpList_plain hgd fun KK hK => by
    subst hn
    have hw : Region.wanted o (yielded ops a.tmps) = true := by simp [Region.wanted, hgd]
    obtain ⟨i0, hi, hz0, hz1, hz2⟩ := info_parts K.info
    have hsm := K.small
    have := step_append_grows (P := Tryz.prog) (ops := ops) (E := False) (K := KK) (Q := QQ) (w := w) hgd s x K.ts ho K.t i0 K.z K.N K.B K.under hi hz0 hz1 hz2 K.zs K.pos f L.length L.length (rcells K L) hs (fun e => ⟨hf e, hf e⟩) (rcells_length K L) hL
      ⟨b, 0, none⟩ 1 c (K.V y).toList hx (by rw [Array.length_toList, K.size, Nat.one_mul]) (by
        intro t v hv
        have ht : t < K.N := by
          have := (List.getElem?_eq_some_iff.1 hv).1
          rwa [Array.length_toList, K.size] at this
        rw [Array.getElem?_toList] at hv
        rw [add_none, Nat.zero_add, hy t ht]
        exact hv) (K.one y) (by omega) (by unfold maxLen; omega) (by
        have := Nat.mul_le_mul (show L.length + 1 ≤ 100001 by omega) hsm
        omega) (by
        intro v' w' hown' hgrow
        have hO : OwnR K w' w.heap.size v' (L ++ [y]) := by
          unfold OwnR
          rw [rcells_append, List.length_append]
          simpa [rcells] using hown'
        obtain ⟨f', c', rfl, _⟩ := hO.form
        have e1 : (L ++ [y]).length = L.length + 1 := by simp
        rw [e1] at hO
        have hb : Below w.heap.size w w' := (Below.refl _ _).grown hgrow (Nat.le_refl _) (fun k hk => by cases hk)
        rw [e1]
        exact hK _ _ (h f' c' w' hO hb))
    rwa [if_pos hw] at this
theorem rows_one {QT : Type} {K : RowK QT} {w : World} {b : Nat} {t : QT} (h : BoxAt w b (K.V t) K.t) : ∀ x, some (⟨b, 0, none⟩ : Addr) = some x → ∀ j u, (rcells K [t])[j]? = some u → w.cell? (x.add j) = some u := by
  intro x hx j u hu
  obtain rfl := Option.some.inj hx
  rw [add_none, Nat.zero_add]
  refine h.get j u ?_
  simpa [rcells] using hu
theorem ngoTo_any (f : Option Addr) (l c : Nat) (on : Bool) (tf tg : Int) (on1 : Bool) (of1 og1 pg acc1 cur lv : Int) (rd : Value) (a b : Int) (tb : Nat) (w : World) (hT : BoxAt w tb #[.slice f l c, .bool on, .int .i64 tf, .int .i64 tg, rd, .bool on1, .int .i64 of1, .int .i64 og1, .int .i64 pg, .int .i64 acc1, .int .i64 cur, .int .i64 lv] 58) :
    Calls Tryz.prog 23 #[.pointer (some ⟨tb, 0, none⟩), .int .i64 a, .int .i64 b] w fun e w' => e = .returned (.tuple #[]) ∧ w' = (w.setCell ⟨tb, 11, none⟩ (.int .i64 a)).setCell ⟨tb, 10, none⟩ (.int .i64 b) := by
  have c11 := hT.get 11 (.int .i64 lv) rfl
  have c10 := hT.get 10 (.int .i64 cur) rfl
  have z11 := hT.free 11
  have z10 := hT.free 10
  clear hT
  go_enter Tryz.func23, Tryz.ntmps23
  go_wp2
  go_end0
  exact ⟨rfl, rfl⟩
theorem nwithin_any (f : Option Addr) (l c : Nat) (on : Bool) (tf tg : Int) (on1 : Bool) (of1 og1 pg acc1 cur lv : Int) (rd : Value) (tb : Nat) (w : World) (hT : BoxAt w tb #[.slice f l c, .bool on, .int .i64 tf, .int .i64 tg, rd, .bool on1, .int .i64 of1, .int .i64 og1, .int .i64 pg, .int .i64 acc1, .int .i64 cur, .int .i64 lv] 58) (h0 : 0 ≤ lv) (h1 : lv ≤ 3) (p0 : 0 ≤ pg) :
    Calls Tryz.prog 52 #[.pointer (some ⟨tb, 0, none⟩)] w fun e w' => e = .returned (.int .i64 (pg % cov lv)) ∧ w = w' := by
  have HC := Lib.hid (fun W => dcovers_yes lv W (numB_iff.2 ⟨h0, h1⟩))
  have c11 := hT.get 11 (.int .i64 lv) rfl
  have c8 := hT.get 8 (.int .i64 pg) rfl
  have hc := cov_pos lv
  have hc1 : (0 : Int) ≤ cov lv := by omega
  have hn : (cov lv == 0) = false := by rw [beq_int]; exact decide_eq_false (by omega)
  have hn0 : cov lv ≠ 0 := by omega
  clear hT
  generalize cov lv = m at *
  go_enter Tryz.func52, Tryz.ntmps52
  go_wp2_with fail
  refine (HC.out _).mono ?_
  rintro e w1 ⟨rfl, rfl⟩
  go_wp2
  go_ret
  exact ⟨by first | rfl | (rw [Int.tmod_eq_emod_of_nonneg p0]), rfl⟩
/-- What a look tells: the table's descriptor, or why it may not be read. -/
def lookD (l : Nat) (X : Nat → BitVec 64) (on : Bool) (tf pg cur lv : Int) : Dsc × Flt × List Int :=
  if (midD l X on tf cur 0).2.1.k = 0 then (tblD X 1 lv (midD l X on tf cur 0).1.f pg, flt0, (midD l X on tf cur 0).2.2 ++ [(midD l X on tf cur 0).1.f])
  else (dz, ⟨(midD l X on tf cur 0).2.1.k, (midD l X on tf cur 0).2.1.st, (midD l X on tf cur 0).2.1.lv, true, (midD l X on tf cur 0).2.1.p⟩, (midD l X on tf cur 0).2.2)
def LookN (f : Option Addr) (l c : Nat) (on : Bool) (tf tg : Int) (on1 : Bool) (of1 og1 pg acc1 cur lv : Int) (tb B : Nat) (R : List Int) (q : Dsc × Flt × List Int) (w : World) (e : Ending) (w' : World) : Prop :=
  ∃ f2 c2, e = .returned (.tuple #[dscV q.1, fltV q.2.1]) ∧ BoxAt w' tb #[.slice f l c, .bool on, .int .i64 tf, .int .i64 tg, .slice f2 (R ++ q.2.2).length c2, .bool on1, .int .i64 of1, .int .i64 og1, .int .i64 pg, .int .i64 acc1, .int .i64 cur, .int .i64 lv] 58 ∧ OwnI w' B (.slice f2 (R ++ q.2.2).length c2) (R ++ q.2.2) ∧ Kep tb B [3] w w'
set_option maxRecDepth 100000 in
set_option maxHeartbeats 3200000 in
theorem nlook_any (f : Option Addr) (l c : Nat) (X : Nat → BitVec 64) (on : Bool) (tf tg : Int) (on1 : Bool) (of1 og1 pg acc1 cur lv : Int) (f' : Option Addr) (c' : Nat) (R : List Int) (tb B : Nat) (w0 w : World) (hX : WordsAt w0 f l X) (hlc : l ≤ c) (hM : okM l = true) (t0 : 0 ≤ tf) (t1 : tf ≤ 4095)
    (hB0 : Below w0.heap.size w0 w) (h0 : w0.heap.size ≤ tb) (hBw : B ≤ w.heap.size) (htB : tb < B) (hO : OwnI w B (.slice f' R.length c') R) (hk : R.length ≤ 50) (m0 : 0 ≤ cur) (m1 : cur ≤ 4095) (p0 : 0 ≤ pg) (p1 : pg ≤ 4095) (g0 : 0 ≤ lv) (g3 : lv ≤ 3) (hT : BoxAt w tb #[.slice f l c, .bool on, .int .i64 tf, .int .i64 tg, .slice f' R.length c', .bool on1, .int .i64 of1, .int .i64 og1, .int .i64 pg, .int .i64 acc1, .int .i64 cur, .int .i64 lv] 58) :
    Calls Tryz.prog 37 #[.pointer (some ⟨tb, 0, none⟩)] w (LookN f l c on tf tg on1 of1 og1 pg acc1 cur lv tb B R (lookD l X on tf pg cur lv) w) := by
  have HR := Lib.hid (fun W hB0 hBw hO hT => nreachT_any f l c X on tf tg on1 of1 og1 pg acc1 cur lv cur 0 f' c' R tb B w0 W (by decide) hX hlc hM t0 t1 m0 m1 hB0 h0 hBw htB hO (by omega) hT)
  have HIF := Lib.hid (fun fk fs fl fw fp W => nfault_any ⟨fk, fs, fl, fw, fp⟩ W)
  unfold fltV at HIF
  simp only at HIF
  have hcs := mid_cases l X on tf cur 0 t0 m0
  have HTB := Lib.hid (fun fr (hf0 : 0 ≤ fr) (hf1 : fr < (l : Int) / 8) W (hW : WordsAt W f l X) => tableC f l c X 1 lv fr pg W (by have := (okM_true hM); omega) hlc hW)
  have HTA := Lib.hid (show ∀ fr, 0 ≤ fr → fr < (l : Int) / 8 → tableA l X 1 lv fr pg = (tblD X 1 lv fr pg, 0) from by
    intro fr hf0 hf1
    unfold tableA
    have e1 : numB fr ((l : Int) / 8 - 1) = true := numB_iff.2 ⟨hf0, by omega⟩
    have e2 : placeB 1 lv = true := placeB_iff.2 ⟨Or.inl rfl, g0, g3⟩
    have e3 : numB pg 4095 = true := numB_iff.2 ⟨p0, p1⟩
    simp [hM, e1, e2, e3])
  have T0 := Lib.hid hT
  have O0 := Lib.hid hO
  have HB0 := Lib.hid hB0
  have HX := Lib.hid hX
  have K0 := Lib.hid (Kep.refl (tb := tb) (B := B) (ow := [3]) w)
  clear hX hB0 hT hO
  clear t0 t1 m0 m1 hlc hM p0 p1 g0 g3
  unfold lookD
  generalize midD l X on tf cur 0 = q at *
  obtain ⟨⟨hf, hm, ⟨hr, hw, hx, ha, hn, hs⟩, hl⟩, ⟨fk, fs, fl, fw, fp⟩, Q⟩ := q
  simp only at hcs ⊢
  obtain ⟨hq4, _, hcs⟩ := hcs
  by_cases hk0 : fk = 0
  · rw [if_pos hk0]
    have df : (fk != 0) = false := by rw [hk0]; rfl
    have hff : 0 ≤ hf ∧ hf < (l : Int) / 8 := by
      rcases hcs with ⟨_, h1, h2⟩ | ⟨h1, _⟩
      · exact ⟨h1, h2⟩
      · exact absurd hk0 h1
    have HTD := Lib.hid (HTB.out hf hff.1 hff.2)
    rw [HTA.out hf hff.1 hff.2] at HTD
    clear hk0 HTB HTA hff hcs
    generalize tblD X 1 lv hf pg = d at *
    obtain ⟨dk, df, dr, dw, dx, da, dn, ds, d0⟩ := d
    unfold dscV at HTD
    simp only at HTD
    go_enter Tryz.func37, Tryz.ntmps37
    go_upto_region 1 with fail
    have T1 := Lib.hid (((T0.out.alloc (.cells z9 70)).alloc (.cells z5 42)))
    have D1 := Lib.hid (((BoxAt.newAt (w) z9 70 (w.heap.size) (by first | omega | (simp; done) | (simp; omega))).alloc (.cells z5 42)))
    have F1 := Lib.hid ((BoxAt.newAt ((w).alloc (.cells z9 70)) z5 42 (w.heap.size + 1) (by first | omega | (simp; done) | (simp; omega))))
    have O1 := Lib.hid (((O0.out.alloc (.cells z9 70)).alloc (.cells z5 42)))
    have B1 := Lib.hid ((bel_alloc (bel_alloc HB0.out (.cells z9 70)) (.cells z5 42)))
    have K1 := Lib.hid (((K0.out.alloc (.cells z9 70)).alloc (.cells z5 42)))
    obtain ⟨g1, hg1⟩ : ∃ g1, g1 = w.heap.size := ⟨_, rfl⟩
    obtain ⟨W1, hW1⟩ : ∃ W1, W1 = ((w).alloc (.cells z9 70)).alloc (.cells z5 42) := ⟨_, rfl⟩
    have hs1 : g1 + 1 + 1 ≤ W1.heap.size := by rw [hW1, hg1]; simp
    rw [← hW1] at T1 D1 F1 O1 B1 K1 ⊢
    have hb1 : w.heap.size ≤ g1 := by omega
    rw [← hg1] at D1 F1 ⊢
    clear hg1
    clear hW1 T0 O0 HB0 K0
    have hcs : g1 + 1 + 1 ≤ W1.heap.size := by omega
    refine wp_region_table (X := Option Addr × Nat) (none, 0) (I0 := fun w' => Below W1.heap.size W1 w') (I1 := fun xJ w' => Kep tb (B) [3] W1 w' ∧ BoxAt w' tb #[.slice f l c, .bool on, .int .i64 tf, .int .i64 tg, .slice xJ.1 (R.length + Q.length) xJ.2, .bool on1, .int .i64 of1, .int .i64 og1, .int .i64 pg, .int .i64 acc1, .int .i64 cur, .int .i64 lv] 58 ∧ OwnI w' (B) (.slice xJ.1 (R.length + Q.length) xJ.2) (R ++ Q)) (lo := W1.heap.size) (c := 7) (U := [⟨(some 9), .con (.pointer (some ⟨tb, 0, none⟩))⟩, ⟨(some 10), .con (.pointer (some ⟨tb, 0, none⟩))⟩, ⟨(some 11), .con (.pointer (some ⟨tb, 0, none⟩))⟩, ⟨(some 12), .con (.pointer (some ⟨tb, 0, none⟩))⟩, ⟨(some 13), .con (.pointer (some ⟨tb, 0, none⟩))⟩, ⟨(some 14), .con (.pointer (some ⟨tb, 10, none⟩))⟩, ⟨(some 15), .ld (.int .i64 cur)⟩, ⟨(some 16), .cal fun xJ => .tuple #[.agg #[.int .i64 hf, .int .i64 hm, .bool hr, .bool hw, .bool hx, .bool ha, .bool hn, .int .i64 hs, .int .i64 hl], .agg #[.int .i64 fk, .int .i64 fs, .int .i64 fl, .bool fw, .int .i64 fp]]⟩, ⟨(some 8), .res fun xJ => .tuple #[.agg #[.int .i64 hf, .int .i64 hm, .bool hr, .bool hw, .bool hx, .bool ha, .bool hn, .int .i64 hs, .int .i64 hl], .agg #[.int .i64 fk, .int .i64 fs, .int .i64 fl, .bool fw, .int .i64 fp]]⟩, ⟨(some 17), .res fun xJ => .agg #[.int .i64 hf, .int .i64 hm, .bool hr, .bool hw, .bool hx, .bool ha, .bool hn, .int .i64 hs, .int .i64 hl]⟩, ⟨(some 18), .res fun xJ => .agg #[.int .i64 fk, .int .i64 fs, .int .i64 fl, .bool fw, .int .i64 fp]⟩, ⟨(some 4), .new 40 #[.int .i64 0, .int .i64 0, .bool false, .bool false, .bool false, .bool false, .bool false, .int .i64 0, .int .i64 0]⟩, ⟨(some 5), .new 42 #[.int .i64 0, .int .i64 0, .int .i64 0, .bool false, .int .i64 0]⟩, ⟨none, .sto 11 fun xJ => #[.int .i64 hf, .int .i64 hm, .bool hr, .bool hw, .bool hx, .bool ha, .bool hn, .int .i64 hs, .int .i64 hl]⟩, ⟨none, .sto 12 fun xJ => #[.int .i64 fk, .int .i64 fs, .int .i64 fl, .bool fw, .int .i64 fp]⟩])
      (V := fun xJ => .tuple #[.agg #[.int .i64 hf, .int .i64 hm, .bool hr, .bool hw, .bool hx, .bool ha, .bool hn, .int .i64 hs, .int .i64 hl], .agg #[.int .i64 fk, .int .i64 fs, .int .i64 fl, .bool fw, .int .i64 fp]]) (f := 34) (args := #[.pointer (some ⟨tb, 0, none⟩), .int .i64 cur, .int .i64 0]) (dc := some 16) (by kernel_rfl) (fun _ _ => rfl) (by kernel_rfl) (by kernel_rfl) rfl
      (AllObl.all ⟨fun _ _ _ => by kernel_rfl, fun _ _ _ => by kernel_rfl, fun _ _ _ => by kernel_rfl, fun _ _ _ => by kernel_rfl, fun _ _ _ => by kernel_rfl, fun _ _ _ => by kernel_rfl, fun _ _ _ hJ => run_ld1 3 (.tmp 14) tb 10 (by kernel_rfl) (by kernel_rfl) Tryz.underlying3 rfl ((T1.out.below hJ).get 10 (.int .i64 cur) rfl), trivial, fun _ _ _ => by kernel_rfl, fun _ _ _ => by kernel_rfl, fun _ _ _ => by kernel_rfl, fun _ _ _ => by kernel_rfl, fun _ _ _ => by kernel_rfl, ⟨_, _, _, rfl, fun _ _ _ hJ => run_stoB 40 (.tmp 4) (.tmp 17) _ (by kernel_rfl) (by kernel_rfl) (by kernel_rfl) (by kernel_rfl) (by rfl) (by simp [Value.oneCell']) hJ⟩, ⟨_, _, _, rfl, fun _ _ _ hJ => run_stoB 42 (.tmp 5) (.tmp 18) _ (by kernel_rfl) (by kernel_rfl) (by kernel_rfl) (by kernel_rfl) (by rfl) (by simp [Value.oneCell']) hJ⟩, trivial⟩)
      (fun _ oJ hJ => bel_alloc hJ oJ) (fun xJ _ oJ hJ => ⟨hJ.1.alloc oJ, hJ.2.1.alloc oJ, hJ.2.2.alloc oJ⟩) (fun xJ _ bJ csJ dsJ tJ iJ zJ dJ hiJ hbJ hxJ hJ => ⟨hJ.1.row bJ dsJ hbJ, hJ.2.1.row (show tb ≠ bJ by omega), hJ.2.2.rowN (hJ.2.2.ne_box hxJ (fun eJ => newsOk_spec (bad := [3]) (by kernel_rfl) hiJ (by rw [eJ]; exact List.mem_cons_self ..)))⟩) (fun _ hJ => hJ.size) (fun xJ _ hJ => hJ.1.size) (fun _ _ _ _ => by kernel_rfl)
      (fun wJ hJ => (HR.out _ (bel_trans B1.out hJ) (by have := hJ.size; first | omega | (simp; done) | (simp; omega)) (O1.out.below hJ) (T1.out.below hJ)).mono (by rintro _ w2J ⟨f, c, rfl, qT, qO, qW⟩; exact ⟨(f, c), rfl, ⟨(Kep.of hJ).trans qW, qT, qO⟩, fun bJ csJ tJ iJ zJ dJ hiJ hlJ hxJ => qW.box hxJ (newsOk_spec (by kernel_rfl) hiJ) (show bJ ≠ tb by omega)⟩)) (Below.drew (Below.refl _ _)) ?_
    rintro ⟨f2, c2⟩ βJ w2c ⟨q2_0, q2_1, q2_2⟩ hNW
    obtain ⟨hbG2, QG2⟩ := hNW.full 11 13 (by kernel_rfl) rfl rfl
    obtain ⟨hbJ2, QJ2⟩ := hNW.full 12 14 (by kernel_rfl) rfl rfl
    have hn2_01 := hNW.ne 11 12 _ _ _ _ _ _ rfl rfl rfl rfl (by decide)
    clear hNW
    simp only [putU, if_true, Act.put, Knd.val, List.setIfInBounds_toArray, List.set_cons_zero, List.set_cons_succ]
    generalize βJ 11 = bG at *
    generalize βJ 12 = bJ at *
    clear βJ
    have hz2 := q2_0.size
    have T2 := Lib.hid (q2_1)
    have D2 := Lib.hid ((q2_0.box D1.out (by decide) (show g1 ≠ tb by omega)))
    have F2 := Lib.hid ((q2_0.box F1.out (by decide) (show g1 + 1 ≠ tb by omega)))
    have O2 := Lib.hid (q2_2)
    have B2 := Lib.hid ((q2_0.under B1.out (by first | omega | (simp; done) | (simp; omega)) (show w0.heap.size ≤ tb by omega) (show w0.heap.size ≤ B by omega)))
    have K2 := Lib.hid ((K1.out.trans q2_0))
    have Gn2 := Lib.hid (QG2)
    have Jn2 := Lib.hid (QJ2)
    obtain ⟨m2, hm2⟩ : ∃ m2, m2 = w2c.heap.size := ⟨_, rfl⟩
    have hbm2 : g1 + 1 + 1 ≤ m2 := by omega
    have hlG2 : bG + 1 ≤ m2 := by rw [hm2]; exact QG2.lt
    have hgG2 : g1 + 1 + 1 ≤ bG := by omega
    have hlJ2 : bJ + 1 ≤ m2 := by rw [hm2]; exact QJ2.lt
    have hgJ2 : g1 + 1 + 1 ≤ bJ := by omega
    have hs2 : m2 ≤ w2c.heap.size := by omega
    clear hm2 hz2 hcs q2_0 q2_1 q2_2 QG2 hbG2 QJ2 hbJ2 T1 D1 F1 O1 B1 K1 hs1
    have Jc0 := Jn2.out.get 0 (.int .i64 fk) rfl
    have Jc1 := Jn2.out.get 1 (.int .i64 fs) rfl
    have Jc2 := Jn2.out.get 2 (.int .i64 fl) rfl
    have Jc3 := Jn2.out.get 3 (.bool fw) rfl
    have Jc4 := Jn2.out.get 4 (.int .i64 fp) rfl
    go_wp2_with fail
    refine (HIF.out _ _ _ _ _ _).mono ?_
    rintro e w3 ⟨rfl, hb3⟩
    have hz3 := hb3.size
    have T3 := Lib.hid (T2.out.below hb3)
    have D3 := Lib.hid (D2.out.below hb3)
    have F3 := Lib.hid (F2.out.below hb3)
    have G3 := Lib.hid (Gn2.out.below hb3)
    have J3 := Lib.hid (Jn2.out.below hb3)
    have O3 := Lib.hid (O2.out.below hb3)
    have B3 := Lib.hid (bel_trans B2.out hb3)
    have K3 := Lib.hid (K2.out.step hb3)
    skip
    have hs3 : m2 ≤ w3.heap.size := by omega
    clear Jc0 Jc1 Jc2 Jc3 Jc4
    clear T2 D2 F2 Gn2 Jn2 O2 B2 K2 hs2 hb3 hz3
    go_upto_region 5 with fail
    refine wp_region_tail [13] (fun _ => True) (fun w' => BoxAt w' (tb) #[.slice f l c, .bool on, .int .i64 tf, .int .i64 tg, .slice f2 (R.length + Q.length) c2, .bool on1, .int .i64 of1, .int .i64 og1, .int .i64 pg, .int .i64 acc1, .int .i64 cur, .int .i64 lv] 58 ∧ BoxAt w' (bG) #[.int .i64 hf, .int .i64 hm, .bool hr, .bool hw, .bool hx, .bool ha, .bool hn, .int .i64 hs, .int .i64 hl] 40) (by kernel_rfl) ?_
    have hS : (fun w' => BoxAt w' (tb) #[.slice f l c, .bool on, .int .i64 tf, .int .i64 tg, .slice f2 (R.length + Q.length) c2, .bool on1, .int .i64 of1, .int .i64 og1, .int .i64 pg, .int .i64 acc1, .int .i64 cur, .int .i64 lv] 58 ∧ BoxAt w' (bG) #[.int .i64 hf, .int .i64 hm, .bool hr, .bool hw, .bool hx, .bool ha, .bool hn, .int .i64 hs, .int .i64 hl] 40) w3.drew := ⟨T3.out.drew, G3.out.drew⟩
    skip
    have T4 := Lib.hid ((T3.out.drew))
    have D4 := Lib.hid ((D3.out.drew))
    have F4 := Lib.hid ((F3.out.drew))
    have G4 := Lib.hid ((G3.out.drew))
    have J4 := Lib.hid ((J3.out.drew))
    have O4 := Lib.hid ((O3.out.drew))
    have B4 := Lib.hid ((Below.drew B3.out))
    have K4 := Lib.hid ((K3.out.drew))
    obtain ⟨W4, hW4⟩ : ∃ W4, W4 = (w3).drew := ⟨_, rfl⟩
    have hs4 : m2 ≤ W4.heap.size := by rw [hW4]; first | exact hs3 | (simp; omega)
    rw [← hW4] at T4 D4 F4 G4 J4 O4 B4 K4 hS ⊢
    clear hW4 T3 D3 F3 G3 J3 O3 B3 K3 hs3
    refine tail_read 0 (oi := ⟨some 24, _, _, _, _, _⟩) (v := ?_) rfl (by kernel_rfl) (by kernel_rfl) (by kernel_rfl) (by kernel_rfl) (fun _ _ _ h => h) ⟨trivial, hS⟩ (Or.inl ⟨by rfl, ?_⟩) ?_
    rotate_left
    · (intro w' hSw; clear hSw; go_simp; try with_reducible rfl)
    simp only [Act.put, List.setIfInBounds_toArray, List.set_cons_zero, List.set_cons_succ]
    refine tail_read 1 (oi := ⟨some 25, _, _, _, _, _⟩) (v := ?_) rfl (by kernel_rfl) (by kernel_rfl) (by kernel_rfl) (by kernel_rfl) (fun _ _ _ h => h) ⟨trivial, hS⟩ (Or.inl ⟨by rfl, ?_⟩) ?_
    rotate_left
    · (intro w' hSw; clear hSw; go_simp; try with_reducible rfl)
    simp only [Act.put, List.setIfInBounds_toArray, List.set_cons_zero, List.set_cons_succ]
    refine tail_read 2 (oi := ⟨some 26, _, _, _, _, _⟩) (v := ?_) rfl (by kernel_rfl) (by kernel_rfl) (by kernel_rfl) (by kernel_rfl) (fun _ _ _ h => h) ⟨trivial, hS⟩ (Or.inl ⟨by rfl, ?_⟩) ?_
    rotate_left
    · (intro w' hSw; clear hSw; go_simp; try with_reducible rfl)
    simp only [Act.put, List.setIfInBounds_toArray, List.set_cons_zero, List.set_cons_succ]
    refine tail_read 3 (oi := ⟨some 27, _, _, _, _, _⟩) (v := ?_) rfl (by kernel_rfl) (by kernel_rfl) (by kernel_rfl) (by kernel_rfl) (fun _ _ _ h => h) ⟨trivial, hS⟩ (Or.inl ⟨by rfl, ?_⟩) ?_
    rotate_left
    · (intro w' hSw; clear hSw; go_simp; try with_reducible rfl)
    simp only [Act.put, List.setIfInBounds_toArray, List.set_cons_zero, List.set_cons_succ]
    refine tail_read 4 (oi := ⟨some 28, _, _, _, _, _⟩) (v := ?_) rfl (by kernel_rfl) (by kernel_rfl) (by kernel_rfl) (by kernel_rfl) (fun _ _ _ h => h) ⟨trivial, hS⟩ (Or.inl ⟨by rfl, ?_⟩) ?_
    rotate_left
    · (intro w' hSw; clear hSw; go_simp; try with_reducible rfl)
    simp only [Act.put, List.setIfInBounds_toArray, List.set_cons_zero, List.set_cons_succ]
    refine tail_chain 5 [9, 10, 11, 12, 13] (oi := ⟨some 29, _, _, _, _, _⟩) (v := ?_) rfl (by kernel_rfl) (by kernel_rfl) (by kernel_rfl) (by kernel_rfl) (fun _ _ _ h => h) ⟨trivial, hS⟩ (Or.inl ⟨by rfl, ?_⟩) ?_
    rotate_left
    · (intro w' hSw; have c0_4 := (hSw.1).get 4 (.slice f2 (R.length + Q.length) c2) rfl; clear hSw; go_simp; try with_reducible rfl)
    simp only [Act.put, List.setIfInBounds_toArray, List.set_cons_zero, List.set_cons_succ]
    refine tail_read 6 (oi := ⟨some 30, _, _, _, _, _⟩) (v := ?_) rfl (by kernel_rfl) (by kernel_rfl) (by kernel_rfl) (by kernel_rfl) (fun _ _ _ h => h) ⟨trivial, hS⟩ (Or.inl ⟨by rfl, ?_⟩) ?_
    rotate_left
    · (intro w' hSw; clear hSw; go_simp; try with_reducible rfl)
    simp only [Act.put, List.setIfInBounds_toArray, List.set_cons_zero, List.set_cons_succ]
    refine tail_chain 7 [8, 9, 10, 11, 12, 13] (oi := ⟨some 31, _, _, _, _, _⟩) (v := ?_) rfl (by kernel_rfl) (by kernel_rfl) (by kernel_rfl) (by kernel_rfl) (fun _ _ _ h => h) ⟨trivial, hS⟩ (Or.inl ⟨by rfl, ?_⟩) ?_
    rotate_left
    · (intro w' hSw; have c1_0 := (hSw.2).get 0 (.int .i64 hf) rfl; clear hSw; go_simp; try with_reducible rfl)
    simp only [Act.put, List.setIfInBounds_toArray, List.set_cons_zero, List.set_cons_succ]
    refine tail_one 8 (o := ⟨some 32, _, _, _, _, _⟩) (by kernel_rfl) rfl (fun K hK => ?_)
    go_simp
    refine hK.out _ _ ?_ (fun hS' => ?_)
    · exact ⟨trivial, ⟨hS.1.alloc _, hS.2.alloc _⟩⟩
    clear hK K hS
    have hS := hS'.2
    clear hS'
    try simp only [Act.put, List.setIfInBounds_toArray, List.set_cons_zero, List.set_cons_succ]
    refine tail_one 9 (o := ⟨some 33, _, _, _, _, _⟩) (by kernel_rfl) rfl (fun K hK => ?_)
    refine step_pushIn rfl _ _ rfl B (R.length + Q.length) _ (R ++ Q) rfl (O4.out.alloc (.cells #[.int .i64 hf] 3)) (by simp) _ 1 hf rfl ((BoxAt.newAt (W4) #[.int .i64 hf] 3 (W4.heap.size) (by first | omega | (simp; done) | (simp; omega))).get 0 (.int .i64 hf) rfl) (by omega) (by first | omega | (simp; done) | (simp; omega)) ?_
    intro f5a c5a w5 hO5 hg5
    have hz5 := hg5.size
    try simp at hz5
    have hSn : (fun w' => BoxAt w' (tb) #[.slice f l c, .bool on, .int .i64 tf, .int .i64 tg, .slice f2 (R.length + Q.length) c2, .bool on1, .int .i64 of1, .int .i64 og1, .int .i64 pg, .int .i64 acc1, .int .i64 cur, .int .i64 lv] 58 ∧ BoxAt w' (bG) #[.int .i64 hf, .int .i64 hm, .bool hr, .bool hw, .bool hx, .bool ha, .bool hn, .int .i64 hs, .int .i64 hl] 40) w5 := ⟨hS.1.grown hg5 ((O4.out.alloc (.cells #[.int .i64 hf] 3)).ne_box (T4.out.alloc (.cells #[.int .i64 hf] 3)) (by decide)), hS.2.grown hg5 ((O4.out.alloc (.cells #[.int .i64 hf] 3)).ne_box (G4.out.alloc (.cells #[.int .i64 hf] 3)) (by decide))⟩
    have T5 := Lib.hid ((T4.out.alloc (.cells #[.int .i64 hf] 3)).grown hg5 ((O4.out.alloc (.cells #[.int .i64 hf] 3)).ne_box (T4.out.alloc (.cells #[.int .i64 hf] 3)) (by decide)))
    have D5 := Lib.hid ((D4.out.alloc (.cells #[.int .i64 hf] 3)).grown hg5 ((O4.out.alloc (.cells #[.int .i64 hf] 3)).ne_box (D4.out.alloc (.cells #[.int .i64 hf] 3)) (by decide)))
    have F5 := Lib.hid ((F4.out.alloc (.cells #[.int .i64 hf] 3)).grown hg5 ((O4.out.alloc (.cells #[.int .i64 hf] 3)).ne_box (F4.out.alloc (.cells #[.int .i64 hf] 3)) (by decide)))
    have G5 := Lib.hid ((G4.out.alloc (.cells #[.int .i64 hf] 3)).grown hg5 ((O4.out.alloc (.cells #[.int .i64 hf] 3)).ne_box (G4.out.alloc (.cells #[.int .i64 hf] 3)) (by decide)))
    have J5 := Lib.hid ((J4.out.alloc (.cells #[.int .i64 hf] 3)).grown hg5 ((O4.out.alloc (.cells #[.int .i64 hf] 3)).ne_box (J4.out.alloc (.cells #[.int .i64 hf] 3)) (by decide)))
    have O5 := Lib.hid (hO5)
    have B5 := Lib.hid ((bel_alloc B4.out (.cells #[.int .i64 hf] 3)).grown hg5 (show w0.heap.size ≤ _ by first | omega | (simp; omega)) (fun k hk => Nat.le_trans (show w0.heap.size ≤ B by omega) ((O4.out.alloc (.cells #[.int .i64 hf] 3)).blk k hk)))
    have K5 := Lib.hid ((K4.out.alloc (.cells #[.int .i64 hf] 3)).grownI (O4.out.alloc (.cells #[.int .i64 hf] 3)) hg5 (by omega) (by decide))
    obtain ⟨g5, hgg5⟩ : ∃ g5, g5 = W4.heap.size := ⟨_, rfl⟩
    have hs5 : g5 + 1 ≤ w5.heap.size := by omega
    have hb5 : m2 ≤ g5 := by omega
    try rw [← hgg5]
    clear hgg5
    clear T4 D4 F4 G4 J4 O4 B4 K4 hg5 hO5 hz5 hs4
    refine hK.out _ _ ?_ (fun hS' => ?_)
    · exact ⟨trivial, hSn⟩
    clear hK K hS hSn
    have hS := hS'.2
    clear hS'
    try simp only [Act.put, List.setIfInBounds_toArray, List.set_cons_zero, List.set_cons_succ]
    refine tail_read 10 (oi := ⟨some 34, _, _, _, _, _⟩) (v := ?_) rfl (by kernel_rfl) (by kernel_rfl) (by kernel_rfl) (by kernel_rfl) (fun _ _ _ h => h) ⟨trivial, hS⟩ (Or.inl ⟨by rfl, ?_⟩) ?_
    rotate_left
    · (intro w' hSw; clear hSw; go_simp; try with_reducible rfl)
    simp only [Act.put, List.setIfInBounds_toArray, List.set_cons_zero, List.set_cons_succ]
    refine tail_read 11 (oi := ⟨some 35, _, _, _, _, _⟩) (v := ?_) rfl (by kernel_rfl) (by kernel_rfl) (by kernel_rfl) (by kernel_rfl) (fun _ _ _ h => h) ⟨trivial, hS⟩ (Or.inl ⟨by rfl, ?_⟩) ?_
    rotate_left
    · (intro w' hSw; clear hSw; go_simp; try with_reducible rfl)
    simp only [Act.put, List.setIfInBounds_toArray, List.set_cons_zero, List.set_cons_succ]
    refine tail_read 12 (oi := ⟨some 36, _, _, _, _, _⟩) (v := ?_) rfl (by kernel_rfl) (by kernel_rfl) (by kernel_rfl) (by kernel_rfl) (fun _ _ _ h => h) ⟨trivial, hS⟩ (Or.inl ⟨by rfl, ?_⟩) ?_
    rotate_left
    · (intro w' hSw; clear hSw; go_simp; try with_reducible rfl)
    simp only [Act.put, List.setIfInBounds_toArray, List.set_cons_zero, List.set_cons_succ]
    refine tail_last 13 (o := ⟨none, _, _, _, _, _⟩) (by decide) (by kernel_rfl) rfl (fun K hK => ?_)
    have zs0 := T5.out.free 4
    have cs0 := T5.out.get 4 (.slice f2 (R.length + Q.length) c2) rfl
    go_simp
    clear zs0 cs0
    refine hK.out _ _ trivial ?_
    clear hK K
    try simp only [Act.put, List.setIfInBounds_toArray, List.set_cons_zero, List.set_cons_succ]
    refine tail_done (by kernel_rfl) ?_
    clear hS
    have T6 := Lib.hid ((T5.out.set 4 (.slice f5a (R.length + Q.length + 1) c5a) #[.slice f l c, .bool on, .int .i64 tf, .int .i64 tg, .slice f5a (R.length + Q.length + 1) c5a, .bool on1, .int .i64 of1, .int .i64 og1, .int .i64 pg, .int .i64 acc1, .int .i64 cur, .int .i64 lv] rfl))
    have D6 := Lib.hid ((D5.out.other ⟨tb, 4, none⟩ (.slice f5a (R.length + Q.length + 1) c5a) (show g1 ≠ tb by omega)))
    have F6 := Lib.hid ((F5.out.other ⟨tb, 4, none⟩ (.slice f5a (R.length + Q.length + 1) c5a) (show g1 + 1 ≠ tb by omega)))
    have G6 := Lib.hid ((G5.out.other ⟨tb, 4, none⟩ (.slice f5a (R.length + Q.length + 1) c5a) (show bG ≠ tb by omega)))
    have J6 := Lib.hid ((J5.out.other ⟨tb, 4, none⟩ (.slice f5a (R.length + Q.length + 1) c5a) (show bJ ≠ tb by omega)))
    have O6 := Lib.hid ((O5.out.otherN ⟨tb, 4, none⟩ (.slice f5a (R.length + Q.length + 1) c5a) (O5.out.ne_box T5.out (by decide))))
    have B6 := Lib.hid ((Below.setCell B5.out (p := ⟨tb, 4, none⟩) (show w0.heap.size ≤ tb by omega) (.slice f5a (R.length + Q.length + 1) c5a)))
    have K6 := Lib.hid ((K5.out.set 4 (.slice f5a (R.length + Q.length + 1) c5a)))
    obtain ⟨W6, hW6⟩ : ∃ W6, W6 = (w5).setCell ⟨tb, 4, none⟩ (.slice f5a (R.length + Q.length + 1) c5a) := ⟨_, rfl⟩
    have hs6 : g5 + 1 ≤ W6.heap.size := by rw [hW6]; first | (simp [World.setCell]; omega) | (simp [World.setCell, World.setRow]; omega) | exact hs5
    rw [← hW6] at T6 D6 F6 G6 J6 O6 B6 K6 ⊢
    clear hW6 T5 D5 F5 G5 J5 O5 B5 K5 hs5
    go_upto_region 6 with fail
    have hcs : g5 + 1 ≤ W6.heap.size := by omega
    refine wp_region_table (X := Unit) () (I0 := fun w' => Below W6.heap.size W6 w') (I1 := fun xJ w' => Below W6.heap.size W6 w') (lo := W6.heap.size) (c := 15) (U := [⟨(some 38), .con (.pointer (some ⟨tb, 0, none⟩))⟩, ⟨(some 39), .con (.pointer (some ⟨tb, 0, none⟩))⟩, ⟨(some 40), .con (.pointer (some ⟨tb, 0, none⟩))⟩, ⟨(some 41), .con (.pointer (some ⟨tb, 0, none⟩))⟩, ⟨(some 42), .ld (.agg #[.slice f l c])⟩, ⟨(some 43), .con (.pointer (some ⟨tb, 0, none⟩))⟩, ⟨(some 44), .con (.pointer (some ⟨tb, 0, none⟩))⟩, ⟨(some 45), .con (.pointer (some ⟨tb, 11, none⟩))⟩, ⟨(some 46), .ld (.int .i64 lv)⟩, ⟨(some 47), .con (.pointer (some ⟨bG, 0, none⟩))⟩, ⟨(some 48), .ld (.int .i64 hf)⟩, ⟨(some 49), .con (.pointer (some ⟨tb, 0, none⟩))⟩, ⟨(some 50), .con (.pointer (some ⟨tb, 0, none⟩))⟩, ⟨(some 51), .con (.pointer (some ⟨tb, 8, none⟩))⟩, ⟨(some 52), .ld (.int .i64 pg)⟩, ⟨(some 53), .cal fun xJ => .tuple #[.agg #[.int .i64 dk, .int .i64 df, .bool dr, .bool dw, .bool dx, .bool da, .bool dn, .int .i64 ds, .int .i64 d0], .int .i64 0]⟩, ⟨(some 37), .res fun xJ => .tuple #[.agg #[.int .i64 dk, .int .i64 df, .bool dr, .bool dw, .bool dx, .bool da, .bool dn, .int .i64 ds, .int .i64 d0], .int .i64 0]⟩, ⟨(some 54), .res fun xJ => .agg #[.int .i64 dk, .int .i64 df, .bool dr, .bool dw, .bool dx, .bool da, .bool dn, .int .i64 ds, .int .i64 d0]⟩, ⟨(some 55), .res fun xJ => .int .i64 0⟩, ⟨(some 6), .new 70 #[.int .i64 0, .int .i64 0, .bool false, .bool false, .bool false, .bool false, .bool false, .int .i64 0, .int .i64 0]⟩, ⟨none, .sto 19 fun xJ => #[.int .i64 dk, .int .i64 df, .bool dr, .bool dw, .bool dx, .bool da, .bool dn, .int .i64 ds, .int .i64 d0]⟩, ⟨(some 7), .res fun xJ => .int .i64 0⟩])
      (V := fun xJ => .tuple #[.agg #[.int .i64 dk, .int .i64 df, .bool dr, .bool dw, .bool dx, .bool da, .bool dn, .int .i64 ds, .int .i64 d0], .int .i64 0]) (f := 51) (args := #[.agg #[.slice f l c], .int .i64 1, .int .i64 lv, .int .i64 hf, .int .i64 pg]) (dc := some 53) (by kernel_rfl) (fun _ _ => rfl) (by kernel_rfl) (by kernel_rfl) rfl
      (AllObl.all ⟨fun _ _ _ => by kernel_rfl, fun _ _ _ => by kernel_rfl, fun _ _ _ => by kernel_rfl, fun _ _ _ => by kernel_rfl, fun _ _ _ hJ => run_ldN 24 (.tmp 41) tb 0 (by kernel_rfl) (by kernel_rfl) Tryz.underlying24 rfl (by kernel_rfl) ((T6.out.below hJ).sub 0 _ rfl), fun _ _ _ => by kernel_rfl, fun _ _ _ => by kernel_rfl, fun _ _ _ => by kernel_rfl, fun _ _ _ hJ => run_ld1 3 (.tmp 45) tb 11 (by kernel_rfl) (by kernel_rfl) Tryz.underlying3 rfl ((T6.out.below hJ).get 11 (.int .i64 lv) rfl), fun _ _ _ => by kernel_rfl, fun _ _ _ hJ => run_ld1 3 (.tmp 47) bG 0 (by kernel_rfl) (by kernel_rfl) Tryz.underlying3 rfl ((G6.out.below hJ).get 0 (.int .i64 hf) rfl), fun _ _ _ => by kernel_rfl, fun _ _ _ => by kernel_rfl, fun _ _ _ => by kernel_rfl, fun _ _ _ hJ => run_ld1 3 (.tmp 51) tb 8 (by kernel_rfl) (by kernel_rfl) Tryz.underlying3 rfl ((T6.out.below hJ).get 8 (.int .i64 pg) rfl), trivial, fun _ _ _ => by kernel_rfl, fun _ _ _ => by kernel_rfl, fun _ _ _ => by kernel_rfl, fun _ _ _ => by kernel_rfl, ⟨_, _, _, rfl, fun _ _ _ hJ => run_stoB 70 (.tmp 6) (.tmp 54) _ (by kernel_rfl) (by kernel_rfl) (by kernel_rfl) (by kernel_rfl) (by rfl) (by simp [Value.oneCell']) hJ⟩, fun _ _ _ => by kernel_rfl, trivial⟩)
      (fun _ oJ hJ => bel_alloc hJ oJ) (fun xJ _ oJ hJ => bel_alloc hJ oJ) (fun xJ _ bJ csJ dsJ tJ iJ zJ dJ hiJ hbJ hxJ hJ => Below.rowB (g := bJ) hJ (cs := dsJ) hbJ) (fun _ hJ => hJ.size) (fun xJ _ hJ => hJ.size) (fun _ _ _ _ => by kernel_rfl)
      (fun wJ hJ => (HTD.out _ (HX.out.below (bel_trans B6.out hJ))).mono (by rintro _ w2J ⟨rfl, hb⟩; exact ⟨(), rfl, bel_trans hJ hb, fun bJ csJ tJ iJ zJ dJ hiJ hlJ hxJ => hxJ.below hb⟩)) (Below.drew (Below.refl _ _)) ?_
    rintro _ βJ w7c q7_0 hNW
    obtain ⟨hbE7, QE7⟩ := hNW.full 19 20 (by kernel_rfl) rfl rfl
    clear hNW
    simp only [putU, if_true, Act.put, Knd.val, List.setIfInBounds_toArray, List.set_cons_zero, List.set_cons_succ]
    generalize βJ 19 = bE at *
    clear βJ
    have hz7 := q7_0.size
    have T7 := Lib.hid (T6.out.below q7_0)
    have D7 := Lib.hid (D6.out.below q7_0)
    have F7 := Lib.hid (F6.out.below q7_0)
    have G7 := Lib.hid (G6.out.below q7_0)
    have J7 := Lib.hid (J6.out.below q7_0)
    have O7 := Lib.hid (O6.out.below q7_0)
    have B7 := Lib.hid (bel_trans B6.out q7_0)
    have K7 := Lib.hid (K6.out.step q7_0)
    have En7 := Lib.hid (QE7)
    obtain ⟨m7, hm7⟩ : ∃ m7, m7 = w7c.heap.size := ⟨_, rfl⟩
    have hbm7 : g5 + 1 ≤ m7 := by omega
    have hlE7 : bE + 1 ≤ m7 := by rw [hm7]; exact QE7.lt
    have hgE7 : g5 + 1 ≤ bE := by omega
    have hs7 : m7 ≤ w7c.heap.size := by omega
    clear hm7 hz7 hcs q7_0 QE7 hbE7 T6 D6 F6 G6 J6 O6 B6 K6 hs6
    have Ec0 := En7.out.get 0 (.int .i64 dk) rfl
    have Ec1 := En7.out.get 1 (.int .i64 df) rfl
    have Ec2 := En7.out.get 2 (.bool dr) rfl
    have Ec3 := En7.out.get 3 (.bool dw) rfl
    have Ec4 := En7.out.get 4 (.bool dx) rfl
    have Ec5 := En7.out.get 5 (.bool da) rfl
    have Ec6 := En7.out.get 6 (.bool dn) rfl
    have Ec7 := En7.out.get 7 (.int .i64 ds) rfl
    have Ec8 := En7.out.get 8 (.int .i64 d0) rfl
    go_wp2_with (first | (refine wpList_storeB rfl 70 _ _ rfl (g1) #[.int .i64 dk, .int .i64 df, .bool dr, .bool dw, .bool dx, .bool da, .bool dn, .int .i64 ds, .int .i64 d0] _ 70 rfl rfl (by kernel_rfl) (by rfl) (by simp [Value.oneCell']) D7.out ?_) | (refine wpList_storeB rfl 42 _ _ rfl (g1 + 1) #[.int .i64 0, .int .i64 0, .int .i64 0, .bool false, .int .i64 0] _ 42 rfl rfl (by kernel_rfl) (by rfl) (by simp [Value.oneCell']) (F7.out.row (cs' := #[.int .i64 dk, .int .i64 df, .bool dr, .bool dw, .bool dx, .bool da, .bool dn, .int .i64 ds, .int .i64 d0]) (show g1 + 1 ≠ g1 by omega)) ?_))
    have RD := ((D7.out.put (cs' := #[.int .i64 dk, .int .i64 df, .bool dr, .bool dw, .bool dx, .bool da, .bool dn, .int .i64 ds, .int .i64 d0])).row (cs' := #[.int .i64 0, .int .i64 0, .int .i64 0, .bool false, .int .i64 0]) (show g1 ≠ g1 + 1 by omega))
    have RF := ((F7.out.row (cs' := #[.int .i64 dk, .int .i64 df, .bool dr, .bool dw, .bool dx, .bool da, .bool dn, .int .i64 ds, .int .i64 d0]) (show g1 + 1 ≠ g1 by omega)).put (cs' := #[.int .i64 0, .int .i64 0, .int .i64 0, .bool false, .int .i64 0]))
    refine bodyPost_ret (v := .tuple #[.agg #[.int .i64 dk, .int .i64 df, .bool dr, .bool dw, .bool dx, .bool da, .bool dn, .int .i64 ds, .int .i64 d0], .agg #[.int .i64 0, .int .i64 0, .int .i64 0, .bool false, .int .i64 0]]) (by simp [results, Tryz.results37, go_sem, RD.get 0 (.int .i64 dk) rfl, RD.get 1 (.int .i64 df) rfl, RD.get 2 (.bool dr) rfl, RD.get 3 (.bool dw) rfl, RD.get 4 (.bool dx) rfl, RD.get 5 (.bool da) rfl, RD.get 6 (.bool dn) rfl, RD.get 7 (.int .i64 ds) rfl, RD.get 8 (.int .i64 d0) rfl, RF.get 0 (.int .i64 0) rfl, RF.get 1 (.int .i64 0) rfl, RF.get 2 (.int .i64 0) rfl, RF.get 3 (.bool false) rfl, RF.get 4 (.int .i64 0) rfl]) rfl ?_
    have e1 : (R ++ (Q ++ [hf])).length = R.length + Q.length + 1 := by simp; omega
    refine ⟨f5a, c5a, rfl, ?_, ?_, ((K7.out.row (g1) #[.int .i64 dk, .int .i64 df, .bool dr, .bool dw, .bool dx, .bool da, .bool dn, .int .i64 ds, .int .i64 d0] (show w.heap.size ≤ g1 by omega)).row (g1 + 1) #[.int .i64 0, .int .i64 0, .int .i64 0, .bool false, .int .i64 0] (show w.heap.size ≤ g1 + 1 by omega))⟩
    · simp only [e1]; exact ((T7.out.row (cs' := #[.int .i64 dk, .int .i64 df, .bool dr, .bool dw, .bool dx, .bool da, .bool dn, .int .i64 ds, .int .i64 d0]) (show tb ≠ g1 by omega)).row (cs' := #[.int .i64 0, .int .i64 0, .int .i64 0, .bool false, .int .i64 0]) (show tb ≠ g1 + 1 by omega))
    · simp only [e1]; rw [← List.append_assoc]; exact ((O7.out.rowN (cs := #[.int .i64 dk, .int .i64 df, .bool dr, .bool dw, .bool dx, .bool da, .bool dn, .int .i64 ds, .int .i64 d0]) (O7.out.ne_box D7.out (by decide))).rowN (cs := #[.int .i64 0, .int .i64 0, .int .i64 0, .bool false, .int .i64 0]) (O7.out.ne_box F7.out (by decide)))
  · rw [if_neg hk0]
    have df : (fk != 0) = true := by simp [hk0]
    clear hk0 HTB HTA hcs
    go_enter Tryz.func37, Tryz.ntmps37
    go_upto_region 1 with fail
    have T1 := Lib.hid (((T0.out.alloc (.cells z9 70)).alloc (.cells z5 42)))
    have D1 := Lib.hid (((BoxAt.newAt (w) z9 70 (w.heap.size) (by first | omega | (simp; done) | (simp; omega))).alloc (.cells z5 42)))
    have F1 := Lib.hid ((BoxAt.newAt ((w).alloc (.cells z9 70)) z5 42 (w.heap.size + 1) (by first | omega | (simp; done) | (simp; omega))))
    have O1 := Lib.hid (((O0.out.alloc (.cells z9 70)).alloc (.cells z5 42)))
    have B1 := Lib.hid ((bel_alloc (bel_alloc HB0.out (.cells z9 70)) (.cells z5 42)))
    have K1 := Lib.hid (((K0.out.alloc (.cells z9 70)).alloc (.cells z5 42)))
    obtain ⟨g1, hg1⟩ : ∃ g1, g1 = w.heap.size := ⟨_, rfl⟩
    obtain ⟨W1, hW1⟩ : ∃ W1, W1 = ((w).alloc (.cells z9 70)).alloc (.cells z5 42) := ⟨_, rfl⟩
    have hs1 : g1 + 1 + 1 ≤ W1.heap.size := by rw [hW1, hg1]; simp
    rw [← hW1] at T1 D1 F1 O1 B1 K1 ⊢
    have hb1 : w.heap.size ≤ g1 := by omega
    rw [← hg1] at D1 F1 ⊢
    clear hg1
    clear hW1 T0 O0 HB0 K0
    have hcs : g1 + 1 + 1 ≤ W1.heap.size := by omega
    refine wp_region_table (X := Option Addr × Nat) (none, 0) (I0 := fun w' => Below W1.heap.size W1 w') (I1 := fun xJ w' => Kep tb (B) [3] W1 w' ∧ BoxAt w' tb #[.slice f l c, .bool on, .int .i64 tf, .int .i64 tg, .slice xJ.1 (R.length + Q.length) xJ.2, .bool on1, .int .i64 of1, .int .i64 og1, .int .i64 pg, .int .i64 acc1, .int .i64 cur, .int .i64 lv] 58 ∧ OwnI w' (B) (.slice xJ.1 (R.length + Q.length) xJ.2) (R ++ Q)) (lo := W1.heap.size) (c := 7) (U := [⟨(some 9), .con (.pointer (some ⟨tb, 0, none⟩))⟩, ⟨(some 10), .con (.pointer (some ⟨tb, 0, none⟩))⟩, ⟨(some 11), .con (.pointer (some ⟨tb, 0, none⟩))⟩, ⟨(some 12), .con (.pointer (some ⟨tb, 0, none⟩))⟩, ⟨(some 13), .con (.pointer (some ⟨tb, 0, none⟩))⟩, ⟨(some 14), .con (.pointer (some ⟨tb, 10, none⟩))⟩, ⟨(some 15), .ld (.int .i64 cur)⟩, ⟨(some 16), .cal fun xJ => .tuple #[.agg #[.int .i64 hf, .int .i64 hm, .bool hr, .bool hw, .bool hx, .bool ha, .bool hn, .int .i64 hs, .int .i64 hl], .agg #[.int .i64 fk, .int .i64 fs, .int .i64 fl, .bool fw, .int .i64 fp]]⟩, ⟨(some 8), .res fun xJ => .tuple #[.agg #[.int .i64 hf, .int .i64 hm, .bool hr, .bool hw, .bool hx, .bool ha, .bool hn, .int .i64 hs, .int .i64 hl], .agg #[.int .i64 fk, .int .i64 fs, .int .i64 fl, .bool fw, .int .i64 fp]]⟩, ⟨(some 17), .res fun xJ => .agg #[.int .i64 hf, .int .i64 hm, .bool hr, .bool hw, .bool hx, .bool ha, .bool hn, .int .i64 hs, .int .i64 hl]⟩, ⟨(some 18), .res fun xJ => .agg #[.int .i64 fk, .int .i64 fs, .int .i64 fl, .bool fw, .int .i64 fp]⟩, ⟨(some 4), .new 40 #[.int .i64 0, .int .i64 0, .bool false, .bool false, .bool false, .bool false, .bool false, .int .i64 0, .int .i64 0]⟩, ⟨(some 5), .new 42 #[.int .i64 0, .int .i64 0, .int .i64 0, .bool false, .int .i64 0]⟩, ⟨none, .sto 11 fun xJ => #[.int .i64 hf, .int .i64 hm, .bool hr, .bool hw, .bool hx, .bool ha, .bool hn, .int .i64 hs, .int .i64 hl]⟩, ⟨none, .sto 12 fun xJ => #[.int .i64 fk, .int .i64 fs, .int .i64 fl, .bool fw, .int .i64 fp]⟩])
      (V := fun xJ => .tuple #[.agg #[.int .i64 hf, .int .i64 hm, .bool hr, .bool hw, .bool hx, .bool ha, .bool hn, .int .i64 hs, .int .i64 hl], .agg #[.int .i64 fk, .int .i64 fs, .int .i64 fl, .bool fw, .int .i64 fp]]) (f := 34) (args := #[.pointer (some ⟨tb, 0, none⟩), .int .i64 cur, .int .i64 0]) (dc := some 16) (by kernel_rfl) (fun _ _ => rfl) (by kernel_rfl) (by kernel_rfl) rfl
      (AllObl.all ⟨fun _ _ _ => by kernel_rfl, fun _ _ _ => by kernel_rfl, fun _ _ _ => by kernel_rfl, fun _ _ _ => by kernel_rfl, fun _ _ _ => by kernel_rfl, fun _ _ _ => by kernel_rfl, fun _ _ _ hJ => run_ld1 3 (.tmp 14) tb 10 (by kernel_rfl) (by kernel_rfl) Tryz.underlying3 rfl ((T1.out.below hJ).get 10 (.int .i64 cur) rfl), trivial, fun _ _ _ => by kernel_rfl, fun _ _ _ => by kernel_rfl, fun _ _ _ => by kernel_rfl, fun _ _ _ => by kernel_rfl, fun _ _ _ => by kernel_rfl, ⟨_, _, _, rfl, fun _ _ _ hJ => run_stoB 40 (.tmp 4) (.tmp 17) _ (by kernel_rfl) (by kernel_rfl) (by kernel_rfl) (by kernel_rfl) (by rfl) (by simp [Value.oneCell']) hJ⟩, ⟨_, _, _, rfl, fun _ _ _ hJ => run_stoB 42 (.tmp 5) (.tmp 18) _ (by kernel_rfl) (by kernel_rfl) (by kernel_rfl) (by kernel_rfl) (by rfl) (by simp [Value.oneCell']) hJ⟩, trivial⟩)
      (fun _ oJ hJ => bel_alloc hJ oJ) (fun xJ _ oJ hJ => ⟨hJ.1.alloc oJ, hJ.2.1.alloc oJ, hJ.2.2.alloc oJ⟩) (fun xJ _ bJ csJ dsJ tJ iJ zJ dJ hiJ hbJ hxJ hJ => ⟨hJ.1.row bJ dsJ hbJ, hJ.2.1.row (show tb ≠ bJ by omega), hJ.2.2.rowN (hJ.2.2.ne_box hxJ (fun eJ => newsOk_spec (bad := [3]) (by kernel_rfl) hiJ (by rw [eJ]; exact List.mem_cons_self ..)))⟩) (fun _ hJ => hJ.size) (fun xJ _ hJ => hJ.1.size) (fun _ _ _ _ => by kernel_rfl)
      (fun wJ hJ => (HR.out _ (bel_trans B1.out hJ) (by have := hJ.size; first | omega | (simp; done) | (simp; omega)) (O1.out.below hJ) (T1.out.below hJ)).mono (by rintro _ w2J ⟨f, c, rfl, qT, qO, qW⟩; exact ⟨(f, c), rfl, ⟨(Kep.of hJ).trans qW, qT, qO⟩, fun bJ csJ tJ iJ zJ dJ hiJ hlJ hxJ => qW.box hxJ (newsOk_spec (by kernel_rfl) hiJ) (show bJ ≠ tb by omega)⟩)) (Below.drew (Below.refl _ _)) ?_
    rintro ⟨f2, c2⟩ βJ w2c ⟨q2_0, q2_1, q2_2⟩ hNW
    obtain ⟨hbG2, QG2⟩ := hNW.full 11 13 (by kernel_rfl) rfl rfl
    obtain ⟨hbJ2, QJ2⟩ := hNW.full 12 14 (by kernel_rfl) rfl rfl
    have hn2_01 := hNW.ne 11 12 _ _ _ _ _ _ rfl rfl rfl rfl (by decide)
    clear hNW
    simp only [putU, if_true, Act.put, Knd.val, List.setIfInBounds_toArray, List.set_cons_zero, List.set_cons_succ]
    generalize βJ 11 = bG at *
    generalize βJ 12 = bJ at *
    clear βJ
    have hz2 := q2_0.size
    have T2 := Lib.hid (q2_1)
    have D2 := Lib.hid ((q2_0.box D1.out (by decide) (show g1 ≠ tb by omega)))
    have F2 := Lib.hid ((q2_0.box F1.out (by decide) (show g1 + 1 ≠ tb by omega)))
    have O2 := Lib.hid (q2_2)
    have B2 := Lib.hid ((q2_0.under B1.out (by first | omega | (simp; done) | (simp; omega)) (show w0.heap.size ≤ tb by omega) (show w0.heap.size ≤ B by omega)))
    have K2 := Lib.hid ((K1.out.trans q2_0))
    have Gn2 := Lib.hid (QG2)
    have Jn2 := Lib.hid (QJ2)
    obtain ⟨m2, hm2⟩ : ∃ m2, m2 = w2c.heap.size := ⟨_, rfl⟩
    have hbm2 : g1 + 1 + 1 ≤ m2 := by omega
    have hlG2 : bG + 1 ≤ m2 := by rw [hm2]; exact QG2.lt
    have hgG2 : g1 + 1 + 1 ≤ bG := by omega
    have hlJ2 : bJ + 1 ≤ m2 := by rw [hm2]; exact QJ2.lt
    have hgJ2 : g1 + 1 + 1 ≤ bJ := by omega
    have hs2 : m2 ≤ w2c.heap.size := by omega
    clear hm2 hz2 hcs q2_0 q2_1 q2_2 QG2 hbG2 QJ2 hbJ2 T1 D1 F1 O1 B1 K1 hs1
    have Jc0 := Jn2.out.get 0 (.int .i64 fk) rfl
    have Jc1 := Jn2.out.get 1 (.int .i64 fs) rfl
    have Jc2 := Jn2.out.get 2 (.int .i64 fl) rfl
    have Jc3 := Jn2.out.get 3 (.bool fw) rfl
    have Jc4 := Jn2.out.get 4 (.int .i64 fp) rfl
    go_wp2_with fail
    refine (HIF.out _ _ _ _ _ _).mono ?_
    rintro e w3 ⟨rfl, hb3⟩
    have hz3 := hb3.size
    have T3 := Lib.hid (T2.out.below hb3)
    have D3 := Lib.hid (D2.out.below hb3)
    have F3 := Lib.hid (F2.out.below hb3)
    have G3 := Lib.hid (Gn2.out.below hb3)
    have J3 := Lib.hid (Jn2.out.below hb3)
    have O3 := Lib.hid (O2.out.below hb3)
    have B3 := Lib.hid (bel_trans B2.out hb3)
    have K3 := Lib.hid (K2.out.step hb3)
    skip
    have hs3 : m2 ≤ w3.heap.size := by omega
    clear Jc0 Jc1 Jc2 Jc3 Jc4
    clear T2 D2 F2 Gn2 Jn2 O2 B2 K2 hs2 hb3 hz3
    have Jc3 := J3.out.get 3 (.bool fw) rfl
    have Jz3 := J3.out.free 3
    go_upto_region 4 with fail
    clear Jc3 Jz3
    have T4 := Lib.hid ((T3.out.other ⟨bJ, 3, none⟩ (.bool true) (show tb ≠ bJ by omega)))
    have D4 := Lib.hid ((D3.out.other ⟨bJ, 3, none⟩ (.bool true) (show g1 ≠ bJ by omega)))
    have F4 := Lib.hid ((F3.out.other ⟨bJ, 3, none⟩ (.bool true) (show g1 + 1 ≠ bJ by omega)))
    have G4 := Lib.hid ((G3.out.other ⟨bJ, 3, none⟩ (.bool true) (show bG ≠ bJ by omega)))
    have J4 := Lib.hid ((J3.out.set 3 (.bool true) #[.int .i64 fk, .int .i64 fs, .int .i64 fl, .bool true, .int .i64 fp] rfl))
    have O4 := Lib.hid ((O3.out.otherN ⟨bJ, 3, none⟩ (.bool true) (O3.out.ne_box J3.out (by decide))))
    have B4 := Lib.hid ((Below.setCell B3.out (p := ⟨bJ, 3, none⟩) (show w0.heap.size ≤ bJ by omega) (.bool true)))
    have K4 := Lib.hid ((K3.out.high ⟨bJ, 3, none⟩ (.bool true) (show w.heap.size ≤ bJ by omega)))
    obtain ⟨W4, hW4⟩ : ∃ W4, W4 = (w3).setCell ⟨bJ, 3, none⟩ (.bool true) := ⟨_, rfl⟩
    have hs4 : m2 ≤ W4.heap.size := by rw [hW4]; first | (simp [World.setCell]; omega) | (simp [World.setCell, World.setRow]; omega) | exact hs3
    rw [← hW4] at T4 D4 F4 G4 J4 O4 B4 K4 ⊢
    clear hW4 T3 D3 F3 G3 J3 O3 B3 K3 hs3
    refine wp_region_held_drew (S := (fun w' => BoxAt w' (bJ) #[.int .i64 fk, .int .i64 fs, .int .i64 fl, .bool true, .int .i64 fp] 42)) (by kernel_rfl) (J4.out.drew) (fun hS => ?_)
    refine tkR 0 22 (v := .agg #[.int .i64 0, .int .i64 0, .bool false, .bool false, .bool false, .bool false, .bool false, .int .i64 0, .int .i64 0]) rfl hS (fun _ _ => by kernel_rfl) ?_
    refine tkR 1 23 (v := .agg #[.int .i64 fk, .int .i64 fs, .int .i64 fl, .bool true, .int .i64 fp]) rfl hS (fun _ h => run_ldN 42 (.tmp 5) bJ 0 (by kernel_rfl) (by kernel_rfl) Tryz.underlying42 rfl (by kernel_rfl) ((h).sub 0 _ rfl)) ?_
    try simp only [Act.put, List.setIfInBounds_toArray, List.set_cons_zero, List.set_cons_succ]
    refine wpAnyH_ready (rs := [2]) (by kernel_rfl) (by simp) ?_
    refine AllReadyH.cons (o := ⟨none, _, _, _, _, _⟩) rfl (fun K hK => ?_) AllReadyH.nil
    refine step_storeB rfl 70 _ _ rfl _ _ _ 70 rfl rfl (by kernel_rfl) (by rfl) (by simp [Value.oneCell']) (D4.out.drew) ?_
    refine hK.out _ _ ?_ (fun hS' => ?_)
    · exact (hS.row (show bJ ≠ g1 by omega))
    clear hK K hS
    have hS := hS'
    clear hS'
    try simp only [Act.put]
    try simp only [Act.put, List.setIfInBounds_toArray, List.set_cons_zero, List.set_cons_succ]
    refine wpAnyH_ready (rs := [3]) (by kernel_rfl) (by simp) ?_
    refine AllReadyH.cons (o := ⟨none, _, _, _, _, _⟩) rfl (fun K hK => ?_) AllReadyH.nil
    refine step_storeB rfl 42 _ _ rfl _ _ _ 42 rfl rfl (by kernel_rfl) (by rfl) (by simp [Value.oneCell']) ((F4.out.drew).row (cs' := #[.int .i64 0, .int .i64 0, .bool false, .bool false, .bool false, .bool false, .bool false, .int .i64 0, .int .i64 0]) (show g1 + 1 ≠ g1 by omega)) ?_
    refine hK.out _ _ ?_ (fun hS' => ?_)
    · exact (hS.row (show bJ ≠ g1 + 1 by omega))
    clear hK K hS
    have hS := hS'
    clear hS'
    try simp only [Act.put]
    refine wpAnyH_done (by kernel_rfl) ?_ _
    try simp only [Act.put, List.setIfInBounds_toArray, List.set_cons_zero, List.set_cons_succ]
    have T5 := Lib.hid ((((T4.out.drew).row (cs' := #[.int .i64 0, .int .i64 0, .bool false, .bool false, .bool false, .bool false, .bool false, .int .i64 0, .int .i64 0]) (show tb ≠ g1 by omega)).row (cs' := #[.int .i64 fk, .int .i64 fs, .int .i64 fl, .bool true, .int .i64 fp]) (show tb ≠ g1 + 1 by omega)))
    have D5 := Lib.hid ((((D4.out.drew).put (cs' := #[.int .i64 0, .int .i64 0, .bool false, .bool false, .bool false, .bool false, .bool false, .int .i64 0, .int .i64 0])).row (cs' := #[.int .i64 fk, .int .i64 fs, .int .i64 fl, .bool true, .int .i64 fp]) (show g1 ≠ g1 + 1 by omega)))
    have F5 := Lib.hid ((((F4.out.drew).row (cs' := #[.int .i64 0, .int .i64 0, .bool false, .bool false, .bool false, .bool false, .bool false, .int .i64 0, .int .i64 0]) (show g1 + 1 ≠ g1 by omega)).put (cs' := #[.int .i64 fk, .int .i64 fs, .int .i64 fl, .bool true, .int .i64 fp])))
    have G5 := Lib.hid ((((G4.out.drew).row (cs' := #[.int .i64 0, .int .i64 0, .bool false, .bool false, .bool false, .bool false, .bool false, .int .i64 0, .int .i64 0]) (show bG ≠ g1 by omega)).row (cs' := #[.int .i64 fk, .int .i64 fs, .int .i64 fl, .bool true, .int .i64 fp]) (show bG ≠ g1 + 1 by omega)))
    have J5 := Lib.hid ((((J4.out.drew).row (cs' := #[.int .i64 0, .int .i64 0, .bool false, .bool false, .bool false, .bool false, .bool false, .int .i64 0, .int .i64 0]) (show bJ ≠ g1 by omega)).row (cs' := #[.int .i64 fk, .int .i64 fs, .int .i64 fl, .bool true, .int .i64 fp]) (show bJ ≠ g1 + 1 by omega)))
    have O5 := Lib.hid ((((O4.out.drew).rowN (cs := #[.int .i64 0, .int .i64 0, .bool false, .bool false, .bool false, .bool false, .bool false, .int .i64 0, .int .i64 0]) (O4.out.ne_box D4.out (by decide))).rowN (cs := #[.int .i64 fk, .int .i64 fs, .int .i64 fl, .bool true, .int .i64 fp]) (O4.out.ne_box F4.out (by decide))))
    have B5 := Lib.hid ((Below.rowB (g := g1 + 1) (Below.rowB (g := g1) (Below.drew B4.out) (cs := #[.int .i64 0, .int .i64 0, .bool false, .bool false, .bool false, .bool false, .bool false, .int .i64 0, .int .i64 0]) (show w0.heap.size ≤ g1 by omega)) (cs := #[.int .i64 fk, .int .i64 fs, .int .i64 fl, .bool true, .int .i64 fp]) (show w0.heap.size ≤ g1 + 1 by omega)))
    have K5 := Lib.hid ((((K4.out.drew).row (g1) #[.int .i64 0, .int .i64 0, .bool false, .bool false, .bool false, .bool false, .bool false, .int .i64 0, .int .i64 0] (show w.heap.size ≤ g1 by omega)).row (g1 + 1) #[.int .i64 fk, .int .i64 fs, .int .i64 fl, .bool true, .int .i64 fp] (show w.heap.size ≤ g1 + 1 by omega)))
    obtain ⟨W5, hW5⟩ : ∃ W5, W5 = (((W4).drew).setRow (g1) #[.int .i64 0, .int .i64 0, .bool false, .bool false, .bool false, .bool false, .bool false, .int .i64 0, .int .i64 0]).setRow (g1 + 1) #[.int .i64 fk, .int .i64 fs, .int .i64 fl, .bool true, .int .i64 fp] := ⟨_, rfl⟩
    have hs5 : m2 ≤ W5.heap.size := by rw [hW5]; first | exact hs4 | (simp; omega)
    rw [← hW5] at T5 D5 F5 G5 J5 O5 B5 K5 ⊢
    clear hW5 T4 D4 F4 G4 J4 O4 B4 K4 hs4
    go_wp2
    have RD := D5.out
    have RF := F5.out
    refine bodyPost_ret (v := .tuple #[.agg #[.int .i64 0, .int .i64 0, .bool false, .bool false, .bool false, .bool false, .bool false, .int .i64 0, .int .i64 0], .agg #[.int .i64 fk, .int .i64 fs, .int .i64 fl, .bool true, .int .i64 fp]]) (by simp [results, Tryz.results37, go_sem, RD.get 0 (.int .i64 0) rfl, RD.get 1 (.int .i64 0) rfl, RD.get 2 (.bool false) rfl, RD.get 3 (.bool false) rfl, RD.get 4 (.bool false) rfl, RD.get 5 (.bool false) rfl, RD.get 6 (.bool false) rfl, RD.get 7 (.int .i64 0) rfl, RD.get 8 (.int .i64 0) rfl, RF.get 0 (.int .i64 fk) rfl, RF.get 1 (.int .i64 fs) rfl, RF.get 2 (.int .i64 fl) rfl, RF.get 3 (.bool true) rfl, RF.get 4 (.int .i64 fp) rfl]) rfl ?_
    have e1 : (R ++ Q).length = R.length + Q.length := by simp
    refine ⟨f2, c2, rfl, ?_, ?_, K5.out⟩
    · simp only [e1]; exact T5.out
    · simp only [e1]; exact O5.out
/-- Where a trip ends that stands before its last page. -/
def landD (l : Nat) (X : Nat → BitVec 64) (on : Bool) (tf cur acc lv : Int) (ab : List Atr) : Hit × Flt × List Int :=
  if (midD l X on tf cur acc).2.1.k = 0 then (⟨(midD l X on tf cur acc).1.f, (midD l X on tf cur acc).1.m, bothL (ab ++ [(midD l X on tf cur acc).1.t]), lv⟩, flt0, (midD l X on tf cur acc).2.2)
  else (hit0, (midD l X on tf cur acc).2.1, (midD l X on tf cur acc).2.2)
def LandN (f : Option Addr) (l c : Nat) (on : Bool) (tf tg : Int) (on1 : Bool) (of1 og1 pg acc1 cur lv : Int) (tb B : Nat) (R : List Int) (q : Hit × Flt × List Int) (w : World) (e : Ending) (w' : World) : Prop :=
  ∃ f2 c2, e = .returned (.tuple #[hitV q.1, fltV q.2.1]) ∧ BoxAt w' tb #[.slice f l c, .bool on, .int .i64 tf, .int .i64 tg, .slice f2 (R ++ q.2.2).length c2, .bool on1, .int .i64 of1, .int .i64 og1, .int .i64 pg, .int .i64 acc1, .int .i64 cur, .int .i64 lv] 58 ∧ OwnI w' B (.slice f2 (R ++ q.2.2).length c2) (R ++ q.2.2) ∧ Kep tb B [3] w w'
set_option maxRecDepth 100000 in
set_option maxHeartbeats 3200000 in
theorem nlandN_any (f : Option Addr) (l c : Nat) (X : Nat → BitVec 64) (on : Bool) (tf tg : Int) (on1 : Bool) (of1 og1 pg acc1 cur lv : Int) (f' : Option Addr) (c' : Nat) (R : List Int) (tb B : Nat) (w0 w : World) (hac : numB acc1 2 = true) (hX : WordsAt w0 f l X) (hlc : l ≤ c) (hM : okM l = true) (t0 : 0 ≤ tf) (t1 : tf ≤ 4095)
    (hB0 : Below w0.heap.size w0 w) (h0 : w0.heap.size ≤ tb) (hBw : B ≤ w.heap.size) (htB : tb < B) (hO : OwnI w B (.slice f' R.length c') R) (hk : R.length ≤ 50) (m0 : 0 ≤ cur) (m1 : cur ≤ 4095) (hT : BoxAt w tb #[.slice f l c, .bool on, .int .i64 tf, .int .i64 tg, .slice f' R.length c', .bool on1, .int .i64 of1, .int .i64 og1, .int .i64 pg, .int .i64 acc1, .int .i64 cur, .int .i64 lv] 58) :
    Calls Tryz.prog 26 #[.pointer (some ⟨tb, 0, none⟩), .slice none 0 0] w (LandN f l c on tf tg on1 of1 og1 pg acc1 cur lv tb B R (landD l X on tf cur acc1 lv []) w) := by
  have HR := Lib.hid (fun W hB0 hBw hO hT => nreachT_any f l c X on tf tg on1 of1 og1 pg acc1 cur lv cur acc1 f' c' R tb B w0 W hac hX hlc hM t0 t1 m0 m1 hB0 h0 hBw htB hO (by omega) hT)
  have HIF := Lib.hid (fun fk fs fl fw fp W => nfault_any ⟨fk, fs, fl, fw, fp⟩ W)
  unfold fltV at HIF
  simp only at HIF
  have hq4 := (midD_len l X on tf t0 cur acc1 m0)
  have T0 := Lib.hid hT
  have O0 := Lib.hid hO
  have HB0 := Lib.hid hB0
  have HX := Lib.hid hX
  have K0 := Lib.hid (Kep.refl (tb := tb) (B := B) (ow := [3]) w)
  clear hX hB0 hT hO
  clear t0 t1 m0 m1 hlc hM hac HX
  unfold landD
  generalize midD l X on tf cur acc1 = q at *
  obtain ⟨⟨hf, hm, ⟨hr, hw, hx, ha, hn, hs⟩, hl⟩, ⟨fk, fs, fl, fw, fp⟩, Q⟩ := q
  simp only at hq4 ⊢
  by_cases hk0 : fk = 0
  · rw [if_pos hk0]
    have df : (fk != 0) = false := by rw [hk0]; rfl
    clear hk0
    obtain ⟨r, hr0⟩ : ∃ r, r = bothL ([] ++ [(⟨hr, hw, hx, ha, hn, hs⟩ : Atr)]) := ⟨_, rfl⟩
    have HBo := Lib.hid (fun fz nz cz W hLz hnz => bothC fz nz cz ([] ++ [(⟨hr, hw, hx, ha, hn, hs⟩ : Atr)]) W hLz hnz (by simp))
    rw [← hr0] at HBo ⊢
    clear hr0
    obtain ⟨br, bw, bx, ba, bn, bs⟩ := r
    unfold atrV atrC at HBo
    simp only at HBo
    go_enter Tryz.func26, Tryz.ntmps26
    go_upto_region 1 with fail
    have T1 := Lib.hid (((T0.out.alloc (.cells z9 40)).alloc (.cells z5 42)))
    have H1 := Lib.hid (((BoxAt.newAt (w) z9 40 (w.heap.size) (by first | omega | (simp; done) | (simp; omega))).alloc (.cells z5 42)))
    have F1 := Lib.hid ((BoxAt.newAt ((w).alloc (.cells z9 40)) z5 42 (w.heap.size + 1) (by first | omega | (simp; done) | (simp; omega))))
    have O1 := Lib.hid (((O0.out.alloc (.cells z9 40)).alloc (.cells z5 42)))
    have B1 := Lib.hid ((bel_alloc (bel_alloc HB0.out (.cells z9 40)) (.cells z5 42)))
    have K1 := Lib.hid (((K0.out.alloc (.cells z9 40)).alloc (.cells z5 42)))
    obtain ⟨g1, hg1⟩ : ∃ g1, g1 = w.heap.size := ⟨_, rfl⟩
    obtain ⟨W1, hW1⟩ : ∃ W1, W1 = ((w).alloc (.cells z9 40)).alloc (.cells z5 42) := ⟨_, rfl⟩
    have hs1 : g1 + 1 + 1 ≤ W1.heap.size := by rw [hW1, hg1]; simp
    rw [← hW1] at T1 H1 F1 O1 B1 K1 ⊢
    have hb1 : w.heap.size ≤ g1 := by omega
    rw [← hg1] at H1 F1 ⊢
    clear hg1
    clear hW1 T0 O0 HB0 K0
    have hcs : g1 + 1 + 1 ≤ W1.heap.size := by omega
    refine wp_region_table (X := Option Addr × Nat) (none, 0) (I0 := fun w' => Below W1.heap.size W1 w') (I1 := fun xJ w' => Kep tb (B) [3] W1 w' ∧ BoxAt w' tb #[.slice f l c, .bool on, .int .i64 tf, .int .i64 tg, .slice xJ.1 (R.length + Q.length) xJ.2, .bool on1, .int .i64 of1, .int .i64 og1, .int .i64 pg, .int .i64 acc1, .int .i64 cur, .int .i64 lv] 58 ∧ OwnI w' (B) (.slice xJ.1 (R.length + Q.length) xJ.2) (R ++ Q)) (lo := W1.heap.size) (c := 11) (U := [⟨(some 9), .con (.pointer (some ⟨tb, 0, none⟩))⟩, ⟨(some 10), .con (.pointer (some ⟨tb, 0, none⟩))⟩, ⟨(some 11), .con (.pointer (some ⟨tb, 0, none⟩))⟩, ⟨(some 12), .con (.pointer (some ⟨tb, 0, none⟩))⟩, ⟨(some 13), .con (.pointer (some ⟨tb, 0, none⟩))⟩, ⟨(some 14), .con (.pointer (some ⟨tb, 10, none⟩))⟩, ⟨(some 15), .ld (.int .i64 cur)⟩, ⟨(some 16), .con (.pointer (some ⟨tb, 0, none⟩))⟩, ⟨(some 17), .con (.pointer (some ⟨tb, 0, none⟩))⟩, ⟨(some 18), .con (.pointer (some ⟨tb, 9, none⟩))⟩, ⟨(some 19), .ld (.int .i64 acc1)⟩, ⟨(some 20), .cal fun xJ => .tuple #[.agg #[.int .i64 hf, .int .i64 hm, .bool hr, .bool hw, .bool hx, .bool ha, .bool hn, .int .i64 hs, .int .i64 hl], .agg #[.int .i64 fk, .int .i64 fs, .int .i64 fl, .bool fw, .int .i64 fp]]⟩, ⟨(some 8), .res fun xJ => .tuple #[.agg #[.int .i64 hf, .int .i64 hm, .bool hr, .bool hw, .bool hx, .bool ha, .bool hn, .int .i64 hs, .int .i64 hl], .agg #[.int .i64 fk, .int .i64 fs, .int .i64 fl, .bool fw, .int .i64 fp]]⟩, ⟨(some 21), .res fun xJ => .agg #[.int .i64 hf, .int .i64 hm, .bool hr, .bool hw, .bool hx, .bool ha, .bool hn, .int .i64 hs, .int .i64 hl]⟩, ⟨(some 22), .res fun xJ => .agg #[.int .i64 fk, .int .i64 fs, .int .i64 fl, .bool fw, .int .i64 fp]⟩, ⟨(some 6), .new 40 #[.int .i64 0, .int .i64 0, .bool false, .bool false, .bool false, .bool false, .bool false, .int .i64 0, .int .i64 0]⟩, ⟨(some 7), .new 42 #[.int .i64 0, .int .i64 0, .int .i64 0, .bool false, .int .i64 0]⟩, ⟨none, .sto 15 fun xJ => #[.int .i64 hf, .int .i64 hm, .bool hr, .bool hw, .bool hx, .bool ha, .bool hn, .int .i64 hs, .int .i64 hl]⟩, ⟨none, .sto 16 fun xJ => #[.int .i64 fk, .int .i64 fs, .int .i64 fl, .bool fw, .int .i64 fp]⟩])
      (V := fun xJ => .tuple #[.agg #[.int .i64 hf, .int .i64 hm, .bool hr, .bool hw, .bool hx, .bool ha, .bool hn, .int .i64 hs, .int .i64 hl], .agg #[.int .i64 fk, .int .i64 fs, .int .i64 fl, .bool fw, .int .i64 fp]]) (f := 34) (args := #[.pointer (some ⟨tb, 0, none⟩), .int .i64 cur, .int .i64 acc1]) (dc := some 20) (by kernel_rfl) (fun _ _ => rfl) (by kernel_rfl) (by kernel_rfl) rfl
      (AllObl.all ⟨fun _ _ _ => by kernel_rfl, fun _ _ _ => by kernel_rfl, fun _ _ _ => by kernel_rfl, fun _ _ _ => by kernel_rfl, fun _ _ _ => by kernel_rfl, fun _ _ _ => by kernel_rfl, fun _ _ _ hJ => run_ld1 3 (.tmp 14) tb 10 (by kernel_rfl) (by kernel_rfl) Tryz.underlying3 rfl ((T1.out.below hJ).get 10 (.int .i64 cur) rfl), fun _ _ _ => by kernel_rfl, fun _ _ _ => by kernel_rfl, fun _ _ _ => by kernel_rfl, fun _ _ _ hJ => run_ld1 3 (.tmp 18) tb 9 (by kernel_rfl) (by kernel_rfl) Tryz.underlying3 rfl ((T1.out.below hJ).get 9 (.int .i64 acc1) rfl), trivial, fun _ _ _ => by kernel_rfl, fun _ _ _ => by kernel_rfl, fun _ _ _ => by kernel_rfl, fun _ _ _ => by kernel_rfl, fun _ _ _ => by kernel_rfl, ⟨_, _, _, rfl, fun _ _ _ hJ => run_stoB 40 (.tmp 6) (.tmp 21) _ (by kernel_rfl) (by kernel_rfl) (by kernel_rfl) (by kernel_rfl) (by rfl) (by simp [Value.oneCell']) hJ⟩, ⟨_, _, _, rfl, fun _ _ _ hJ => run_stoB 42 (.tmp 7) (.tmp 22) _ (by kernel_rfl) (by kernel_rfl) (by kernel_rfl) (by kernel_rfl) (by rfl) (by simp [Value.oneCell']) hJ⟩, trivial⟩)
      (fun _ oJ hJ => bel_alloc hJ oJ) (fun xJ _ oJ hJ => ⟨hJ.1.alloc oJ, hJ.2.1.alloc oJ, hJ.2.2.alloc oJ⟩) (fun xJ _ bJ csJ dsJ tJ iJ zJ dJ hiJ hbJ hxJ hJ => ⟨hJ.1.row bJ dsJ hbJ, hJ.2.1.row (show tb ≠ bJ by omega), hJ.2.2.rowN (hJ.2.2.ne_box hxJ (fun eJ => newsOk_spec (bad := [3]) (by kernel_rfl) hiJ (by rw [eJ]; exact List.mem_cons_self ..)))⟩) (fun _ hJ => hJ.size) (fun xJ _ hJ => hJ.1.size) (fun _ _ _ _ => by kernel_rfl)
      (fun wJ hJ => (HR.out _ (bel_trans B1.out hJ) (by have := hJ.size; first | omega | (simp; done) | (simp; omega)) (O1.out.below hJ) (T1.out.below hJ)).mono (by rintro _ w2J ⟨f, c, rfl, qT, qO, qW⟩; exact ⟨(f, c), rfl, ⟨(Kep.of hJ).trans qW, qT, qO⟩, fun bJ csJ tJ iJ zJ dJ hiJ hlJ hxJ => qW.box hxJ (newsOk_spec (by kernel_rfl) hiJ) (show bJ ≠ tb by omega)⟩)) (Below.drew (Below.refl _ _)) ?_
    rintro ⟨f2, c2⟩ βJ w2c ⟨q2_0, q2_1, q2_2⟩ hNW
    obtain ⟨hbG2, QG2⟩ := hNW.full 15 17 (by kernel_rfl) rfl rfl
    obtain ⟨hbJ2, QJ2⟩ := hNW.full 16 18 (by kernel_rfl) rfl rfl
    have hn2_01 := hNW.ne 15 16 _ _ _ _ _ _ rfl rfl rfl rfl (by decide)
    clear hNW
    simp only [putU, if_true, Act.put, Knd.val, List.setIfInBounds_toArray, List.set_cons_zero, List.set_cons_succ]
    generalize βJ 15 = bG at *
    generalize βJ 16 = bJ at *
    clear βJ
    have hz2 := q2_0.size
    have T2 := Lib.hid (q2_1)
    have H2 := Lib.hid ((q2_0.box H1.out (by decide) (show g1 ≠ tb by omega)))
    have F2 := Lib.hid ((q2_0.box F1.out (by decide) (show g1 + 1 ≠ tb by omega)))
    have O2 := Lib.hid (q2_2)
    have B2 := Lib.hid ((q2_0.under B1.out (by first | omega | (simp; done) | (simp; omega)) (show w0.heap.size ≤ tb by omega) (show w0.heap.size ≤ B by omega)))
    have K2 := Lib.hid ((K1.out.trans q2_0))
    have Gn2 := Lib.hid (QG2)
    have Jn2 := Lib.hid (QJ2)
    obtain ⟨m2, hm2⟩ : ∃ m2, m2 = w2c.heap.size := ⟨_, rfl⟩
    have hbm2 : g1 + 1 + 1 ≤ m2 := by omega
    have hlG2 : bG + 1 ≤ m2 := by rw [hm2]; exact QG2.lt
    have hgG2 : g1 + 1 + 1 ≤ bG := by omega
    have hlJ2 : bJ + 1 ≤ m2 := by rw [hm2]; exact QJ2.lt
    have hgJ2 : g1 + 1 + 1 ≤ bJ := by omega
    have hs2 : m2 ≤ w2c.heap.size := by omega
    clear hm2 hz2 hcs q2_0 q2_1 q2_2 QG2 hbG2 QJ2 hbJ2 T1 H1 F1 O1 B1 K1 hs1
    have Jc0 := Jn2.out.get 0 (.int .i64 fk) rfl
    have Jc1 := Jn2.out.get 1 (.int .i64 fs) rfl
    have Jc2 := Jn2.out.get 2 (.int .i64 fl) rfl
    have Jc3 := Jn2.out.get 3 (.bool fw) rfl
    have Jc4 := Jn2.out.get 4 (.int .i64 fp) rfl
    go_wp2_with fail
    refine (HIF.out _ _ _ _ _ _).mono ?_
    rintro e w3 ⟨rfl, hb3⟩
    have hz3 := hb3.size
    have T3 := Lib.hid (T2.out.below hb3)
    have H3 := Lib.hid (H2.out.below hb3)
    have F3 := Lib.hid (F2.out.below hb3)
    have G3 := Lib.hid (Gn2.out.below hb3)
    have J3 := Lib.hid (Jn2.out.below hb3)
    have O3 := Lib.hid (O2.out.below hb3)
    have B3 := Lib.hid (bel_trans B2.out hb3)
    have K3 := Lib.hid (K2.out.step hb3)
    skip
    have hs3 : m2 ≤ w3.heap.size := by omega
    clear Jc0 Jc1 Jc2 Jc3 Jc4
    clear T2 H2 F2 Gn2 Jn2 O2 B2 K2 hs2 hb3 hz3
    have Gc2 := G3.out.get 2 (.bool hr) rfl
    have Gc3 := G3.out.get 3 (.bool hw) rfl
    have Gc4 := G3.out.get 4 (.bool hx) rfl
    have Gc5 := G3.out.get 5 (.bool ha) rfl
    have Gc6 := G3.out.get 6 (.bool hn) rfl
    have Gc7 := G3.out.get 7 (.int .i64 hs) rfl
    go_wp2_with (at_builtin; refine wpList_growR (K := KA) rfl _ _ rfl none 0 ([] : List Atr) rfl rfl (fun _ => rfl) (fun b hb => by cases hb) _ 1 (⟨hr, hw, hx, ha, hn, hs⟩ : Atr) rfl (fun i hi => (BoxAt.newAt (w3) #[.bool hr, .bool hw, .bool hx, .bool ha, .bool hn, .int .i64 hs] 38 (w3.heap.size) (by first | omega | (simp; done) | (simp; omega))).cell i) (by decide) ?_; intro f4a c4a w4 hO4 hb4; clear Gc2 Gc3 Gc4 Gc5 Gc6 Gc7; have hz4 := hb4.size; simp at hz4; have T4 := Lib.hid ((T3.out.alloc (.cells #[.bool hr, .bool hw, .bool hx, .bool ha, .bool hn, .int .i64 hs] 38)).below hb4); have H4 := Lib.hid ((H3.out.alloc (.cells #[.bool hr, .bool hw, .bool hx, .bool ha, .bool hn, .int .i64 hs] 38)).below hb4); have F4 := Lib.hid ((F3.out.alloc (.cells #[.bool hr, .bool hw, .bool hx, .bool ha, .bool hn, .int .i64 hs] 38)).below hb4); have G4 := Lib.hid ((G3.out.alloc (.cells #[.bool hr, .bool hw, .bool hx, .bool ha, .bool hn, .int .i64 hs] 38)).below hb4); have J4 := Lib.hid ((J3.out.alloc (.cells #[.bool hr, .bool hw, .bool hx, .bool ha, .bool hn, .int .i64 hs] 38)).below hb4); have O4 := Lib.hid ((O3.out.alloc (.cells #[.bool hr, .bool hw, .bool hx, .bool ha, .bool hn, .int .i64 hs] 38)).below hb4); have B4 := Lib.hid (bel_trans (bel_alloc B3.out (.cells #[.bool hr, .bool hw, .bool hx, .bool ha, .bool hn, .int .i64 hs] 38)) hb4); have K4 := Lib.hid ((K3.out.alloc (.cells #[.bool hr, .bool hw, .bool hx, .bool ha, .bool hn, .int .i64 hs] 38)).step hb4); have hs4 : m2 ≤ w4.heap.size := (by omega); have Q4 := Lib.hid (OwnR.mono hO4 (base' := w.heap.size) (by first | omega | (simp; done) | (simp; omega))); clear T3 H3 F3 G3 J3 O3 B3 K3 hb4 hO4 hz4 hs3)
    refine (HBo.out _ _ _ _ Q4.out.rows.2 rfl).mono ?_
    rintro e w5 ⟨rfl, hb5⟩
    have hz5 := hb5.size
    have T5 := Lib.hid (T4.out.below hb5)
    have H5 := Lib.hid (H4.out.below hb5)
    have F5 := Lib.hid (F4.out.below hb5)
    have G5 := Lib.hid (G4.out.below hb5)
    have J5 := Lib.hid (J4.out.below hb5)
    have O5 := Lib.hid (O4.out.below hb5)
    have Q5 := Lib.hid (Q4.out.below hb5)
    have B5 := Lib.hid (bel_trans B4.out hb5)
    have K5 := Lib.hid (K4.out.step hb5)
    skip
    have hs5 : m2 ≤ w5.heap.size := by omega
    clear T4 H4 F4 G4 J4 O4 Q4 B4 K4 hs4 hb5 hz5
    have Gc2 := G5.out.get 2 (.bool hr) rfl
    have Gc3 := G5.out.get 3 (.bool hw) rfl
    have Gc4 := G5.out.get 4 (.bool hx) rfl
    have Gc5 := G5.out.get 5 (.bool ha) rfl
    have Gc6 := G5.out.get 6 (.bool hn) rfl
    have Gc7 := G5.out.get 7 (.int .i64 hs) rfl
    have Gz2 := G5.out.free 2
    have Gz3 := G5.out.free 3
    have Gz4 := G5.out.free 4
    have Gz5 := G5.out.free 5
    have Gz6 := G5.out.free 6
    have Gz7 := G5.out.free 7
    go_upto_region 5 with fail
    clear Gc2 Gc3 Gc4 Gc5 Gc6 Gc7 Gz2 Gz3 Gz4 Gz5 Gz6 Gz7
    have T6 := Lib.hid (((((((T5.out.other ⟨bG, 2, none⟩ (.bool br) (show tb ≠ bG by omega)).other ⟨bG, 3, none⟩ (.bool bw) (show tb ≠ bG by omega)).other ⟨bG, 4, none⟩ (.bool bx) (show tb ≠ bG by omega)).other ⟨bG, 5, none⟩ (.bool ba) (show tb ≠ bG by omega)).other ⟨bG, 6, none⟩ (.bool bn) (show tb ≠ bG by omega)).other ⟨bG, 7, none⟩ (.int .i64 bs) (show tb ≠ bG by omega)))
    have H6 := Lib.hid (((((((H5.out.other ⟨bG, 2, none⟩ (.bool br) (show g1 ≠ bG by omega)).other ⟨bG, 3, none⟩ (.bool bw) (show g1 ≠ bG by omega)).other ⟨bG, 4, none⟩ (.bool bx) (show g1 ≠ bG by omega)).other ⟨bG, 5, none⟩ (.bool ba) (show g1 ≠ bG by omega)).other ⟨bG, 6, none⟩ (.bool bn) (show g1 ≠ bG by omega)).other ⟨bG, 7, none⟩ (.int .i64 bs) (show g1 ≠ bG by omega)))
    have F6 := Lib.hid (((((((F5.out.other ⟨bG, 2, none⟩ (.bool br) (show g1 + 1 ≠ bG by omega)).other ⟨bG, 3, none⟩ (.bool bw) (show g1 + 1 ≠ bG by omega)).other ⟨bG, 4, none⟩ (.bool bx) (show g1 + 1 ≠ bG by omega)).other ⟨bG, 5, none⟩ (.bool ba) (show g1 + 1 ≠ bG by omega)).other ⟨bG, 6, none⟩ (.bool bn) (show g1 + 1 ≠ bG by omega)).other ⟨bG, 7, none⟩ (.int .i64 bs) (show g1 + 1 ≠ bG by omega)))
    have G6 := Lib.hid (((((((G5.out.set 2 (.bool br) #[.int .i64 hf, .int .i64 hm, .bool br, .bool hw, .bool hx, .bool ha, .bool hn, .int .i64 hs, .int .i64 hl] rfl).set 3 (.bool bw) #[.int .i64 hf, .int .i64 hm, .bool br, .bool bw, .bool hx, .bool ha, .bool hn, .int .i64 hs, .int .i64 hl] rfl).set 4 (.bool bx) #[.int .i64 hf, .int .i64 hm, .bool br, .bool bw, .bool bx, .bool ha, .bool hn, .int .i64 hs, .int .i64 hl] rfl).set 5 (.bool ba) #[.int .i64 hf, .int .i64 hm, .bool br, .bool bw, .bool bx, .bool ba, .bool hn, .int .i64 hs, .int .i64 hl] rfl).set 6 (.bool bn) #[.int .i64 hf, .int .i64 hm, .bool br, .bool bw, .bool bx, .bool ba, .bool bn, .int .i64 hs, .int .i64 hl] rfl).set 7 (.int .i64 bs) #[.int .i64 hf, .int .i64 hm, .bool br, .bool bw, .bool bx, .bool ba, .bool bn, .int .i64 bs, .int .i64 hl] rfl))
    have J6 := Lib.hid (((((((J5.out.other ⟨bG, 2, none⟩ (.bool br) (show bJ ≠ bG by omega)).other ⟨bG, 3, none⟩ (.bool bw) (show bJ ≠ bG by omega)).other ⟨bG, 4, none⟩ (.bool bx) (show bJ ≠ bG by omega)).other ⟨bG, 5, none⟩ (.bool ba) (show bJ ≠ bG by omega)).other ⟨bG, 6, none⟩ (.bool bn) (show bJ ≠ bG by omega)).other ⟨bG, 7, none⟩ (.int .i64 bs) (show bJ ≠ bG by omega)))
    have O6 := Lib.hid (((((((O5.out.otherN ⟨bG, 2, none⟩ (.bool br) (O5.out.ne_box G5.out (by decide))).otherN ⟨bG, 3, none⟩ (.bool bw) (O5.out.ne_box G5.out (by decide))).otherN ⟨bG, 4, none⟩ (.bool bx) (O5.out.ne_box G5.out (by decide))).otherN ⟨bG, 5, none⟩ (.bool ba) (O5.out.ne_box G5.out (by decide))).otherN ⟨bG, 6, none⟩ (.bool bn) (O5.out.ne_box G5.out (by decide))).otherN ⟨bG, 7, none⟩ (.int .i64 bs) (O5.out.ne_box G5.out (by decide))))
    have Q6 := Lib.hid (((((((Q5.out.otherN ⟨bG, 2, none⟩ (.bool br) (Q5.out.ne_box G5.out (by decide))).otherN ⟨bG, 3, none⟩ (.bool bw) (Q5.out.ne_box G5.out (by decide))).otherN ⟨bG, 4, none⟩ (.bool bx) (Q5.out.ne_box G5.out (by decide))).otherN ⟨bG, 5, none⟩ (.bool ba) (Q5.out.ne_box G5.out (by decide))).otherN ⟨bG, 6, none⟩ (.bool bn) (Q5.out.ne_box G5.out (by decide))).otherN ⟨bG, 7, none⟩ (.int .i64 bs) (Q5.out.ne_box G5.out (by decide))))
    have B6 := Lib.hid ((Below.setCell (Below.setCell (Below.setCell (Below.setCell (Below.setCell (Below.setCell B5.out (p := ⟨bG, 2, none⟩) (show w0.heap.size ≤ bG by omega) (.bool br)) (p := ⟨bG, 3, none⟩) (show w0.heap.size ≤ bG by omega) (.bool bw)) (p := ⟨bG, 4, none⟩) (show w0.heap.size ≤ bG by omega) (.bool bx)) (p := ⟨bG, 5, none⟩) (show w0.heap.size ≤ bG by omega) (.bool ba)) (p := ⟨bG, 6, none⟩) (show w0.heap.size ≤ bG by omega) (.bool bn)) (p := ⟨bG, 7, none⟩) (show w0.heap.size ≤ bG by omega) (.int .i64 bs)))
    have K6 := Lib.hid (((((((K5.out.high ⟨bG, 2, none⟩ (.bool br) (show w.heap.size ≤ bG by omega)).high ⟨bG, 3, none⟩ (.bool bw) (show w.heap.size ≤ bG by omega)).high ⟨bG, 4, none⟩ (.bool bx) (show w.heap.size ≤ bG by omega)).high ⟨bG, 5, none⟩ (.bool ba) (show w.heap.size ≤ bG by omega)).high ⟨bG, 6, none⟩ (.bool bn) (show w.heap.size ≤ bG by omega)).high ⟨bG, 7, none⟩ (.int .i64 bs) (show w.heap.size ≤ bG by omega)))
    obtain ⟨W6, hW6⟩ : ∃ W6, W6 = ((((((w5).setCell ⟨bG, 2, none⟩ (.bool br)).setCell ⟨bG, 3, none⟩ (.bool bw)).setCell ⟨bG, 4, none⟩ (.bool bx)).setCell ⟨bG, 5, none⟩ (.bool ba)).setCell ⟨bG, 6, none⟩ (.bool bn)).setCell ⟨bG, 7, none⟩ (.int .i64 bs) := ⟨_, rfl⟩
    have hs6 : m2 ≤ W6.heap.size := by rw [hW6]; first | (simp [World.setCell]; omega) | (simp [World.setCell, World.setRow]; omega) | exact hs5
    rw [← hW6] at T6 H6 F6 G6 J6 O6 Q6 B6 K6 ⊢
    clear hW6 T5 H5 F5 G5 J5 O5 Q5 B5 K5 hs5
    have Tc11 := T6.out.get 11 (.int .i64 lv) rfl
    have Gc8 := G6.out.get 8 (.int .i64 hl) rfl
    have Gz8 := G6.out.free 8
    go_upto_region 6 with fail
    clear Tc11 Gc8 Gz8
    have T7 := Lib.hid ((T6.out.other ⟨bG, 8, none⟩ (.int .i64 lv) (show tb ≠ bG by omega)))
    have H7 := Lib.hid ((H6.out.other ⟨bG, 8, none⟩ (.int .i64 lv) (show g1 ≠ bG by omega)))
    have F7 := Lib.hid ((F6.out.other ⟨bG, 8, none⟩ (.int .i64 lv) (show g1 + 1 ≠ bG by omega)))
    have G7 := Lib.hid ((G6.out.set 8 (.int .i64 lv) #[.int .i64 hf, .int .i64 hm, .bool br, .bool bw, .bool bx, .bool ba, .bool bn, .int .i64 bs, .int .i64 lv] rfl))
    have J7 := Lib.hid ((J6.out.other ⟨bG, 8, none⟩ (.int .i64 lv) (show bJ ≠ bG by omega)))
    have O7 := Lib.hid ((O6.out.otherN ⟨bG, 8, none⟩ (.int .i64 lv) (O6.out.ne_box G6.out (by decide))))
    have Q7 := Lib.hid ((Q6.out.otherN ⟨bG, 8, none⟩ (.int .i64 lv) (Q6.out.ne_box G6.out (by decide))))
    have B7 := Lib.hid ((Below.setCell B6.out (p := ⟨bG, 8, none⟩) (show w0.heap.size ≤ bG by omega) (.int .i64 lv)))
    have K7 := Lib.hid ((K6.out.high ⟨bG, 8, none⟩ (.int .i64 lv) (show w.heap.size ≤ bG by omega)))
    obtain ⟨W7, hW7⟩ : ∃ W7, W7 = (W6).setCell ⟨bG, 8, none⟩ (.int .i64 lv) := ⟨_, rfl⟩
    have hs7 : m2 ≤ W7.heap.size := by rw [hW7]; first | (simp [World.setCell]; omega) | (simp [World.setCell, World.setRow]; omega) | exact hs6
    rw [← hW7] at T7 H7 F7 G7 J7 O7 Q7 B7 K7 ⊢
    clear hW7 T6 H6 F6 G6 J6 O6 Q6 B6 K6 hs6
    have Gc0 := G7.out.get 0 (.int .i64 hf) rfl
    have Gc1 := G7.out.get 1 (.int .i64 hm) rfl
    have Gc2 := G7.out.get 2 (.bool br) rfl
    have Gc3 := G7.out.get 3 (.bool bw) rfl
    have Gc4 := G7.out.get 4 (.bool bx) rfl
    have Gc5 := G7.out.get 5 (.bool ba) rfl
    have Gc6 := G7.out.get 6 (.bool bn) rfl
    have Gc7 := G7.out.get 7 (.int .i64 bs) rfl
    have Gc8 := G7.out.get 8 (.int .i64 lv) rfl
    go_wp2_with (first | (refine wpList_storeB rfl 40 _ _ rfl (g1) #[.int .i64 hf, .int .i64 hm, .bool br, .bool bw, .bool bx, .bool ba, .bool bn, .int .i64 bs, .int .i64 lv] _ 40 rfl rfl (by kernel_rfl) (by rfl) (by simp [Value.oneCell']) H7.out ?_) | (refine wpList_storeB rfl 42 _ _ rfl (g1 + 1) #[.int .i64 0, .int .i64 0, .int .i64 0, .bool false, .int .i64 0] _ 42 rfl rfl (by kernel_rfl) (by rfl) (by simp [Value.oneCell']) (F7.out.row (cs' := #[.int .i64 hf, .int .i64 hm, .bool br, .bool bw, .bool bx, .bool ba, .bool bn, .int .i64 bs, .int .i64 lv]) (show g1 + 1 ≠ g1 by omega)) ?_))
    have RH := ((H7.out.put (cs' := #[.int .i64 hf, .int .i64 hm, .bool br, .bool bw, .bool bx, .bool ba, .bool bn, .int .i64 bs, .int .i64 lv])).row (cs' := #[.int .i64 0, .int .i64 0, .int .i64 0, .bool false, .int .i64 0]) (show g1 ≠ g1 + 1 by omega))
    have RF := ((F7.out.row (cs' := #[.int .i64 hf, .int .i64 hm, .bool br, .bool bw, .bool bx, .bool ba, .bool bn, .int .i64 bs, .int .i64 lv]) (show g1 + 1 ≠ g1 by omega)).put (cs' := #[.int .i64 0, .int .i64 0, .int .i64 0, .bool false, .int .i64 0]))
    refine bodyPost_ret (v := .tuple #[.agg #[.int .i64 hf, .int .i64 hm, .bool br, .bool bw, .bool bx, .bool ba, .bool bn, .int .i64 bs, .int .i64 lv], .agg #[.int .i64 0, .int .i64 0, .int .i64 0, .bool false, .int .i64 0]]) (by simp [results, Tryz.results26, go_sem, RH.get 0 (.int .i64 hf) rfl, RH.get 1 (.int .i64 hm) rfl, RH.get 2 (.bool br) rfl, RH.get 3 (.bool bw) rfl, RH.get 4 (.bool bx) rfl, RH.get 5 (.bool ba) rfl, RH.get 6 (.bool bn) rfl, RH.get 7 (.int .i64 bs) rfl, RH.get 8 (.int .i64 lv) rfl, RF.get 0 (.int .i64 0) rfl, RF.get 1 (.int .i64 0) rfl, RF.get 2 (.int .i64 0) rfl, RF.get 3 (.bool false) rfl, RF.get 4 (.int .i64 0) rfl]) rfl ?_
    have e1 : (R ++ Q).length = R.length + Q.length := by simp
    refine ⟨f2, c2, rfl, ?_, ?_, ((K7.out.row (g1) #[.int .i64 hf, .int .i64 hm, .bool br, .bool bw, .bool bx, .bool ba, .bool bn, .int .i64 bs, .int .i64 lv] (show w.heap.size ≤ g1 by omega)).row (g1 + 1) #[.int .i64 0, .int .i64 0, .int .i64 0, .bool false, .int .i64 0] (show w.heap.size ≤ g1 + 1 by omega))⟩
    · simp only [e1]; exact ((T7.out.row (cs' := #[.int .i64 hf, .int .i64 hm, .bool br, .bool bw, .bool bx, .bool ba, .bool bn, .int .i64 bs, .int .i64 lv]) (show tb ≠ g1 by omega)).row (cs' := #[.int .i64 0, .int .i64 0, .int .i64 0, .bool false, .int .i64 0]) (show tb ≠ g1 + 1 by omega))
    · simp only [e1]; exact ((O7.out.rowN (cs := #[.int .i64 hf, .int .i64 hm, .bool br, .bool bw, .bool bx, .bool ba, .bool bn, .int .i64 bs, .int .i64 lv]) (O7.out.ne_box H7.out (by decide))).rowN (cs := #[.int .i64 0, .int .i64 0, .int .i64 0, .bool false, .int .i64 0]) (O7.out.ne_box F7.out (by decide)))
  · rw [if_neg hk0]
    have df : (fk != 0) = true := by simp [hk0]
    clear hk0
    go_enter Tryz.func26, Tryz.ntmps26
    go_upto_region 1 with fail
    have T1 := Lib.hid (((T0.out.alloc (.cells z9 40)).alloc (.cells z5 42)))
    have H1 := Lib.hid (((BoxAt.newAt (w) z9 40 (w.heap.size) (by first | omega | (simp; done) | (simp; omega))).alloc (.cells z5 42)))
    have F1 := Lib.hid ((BoxAt.newAt ((w).alloc (.cells z9 40)) z5 42 (w.heap.size + 1) (by first | omega | (simp; done) | (simp; omega))))
    have O1 := Lib.hid (((O0.out.alloc (.cells z9 40)).alloc (.cells z5 42)))
    have B1 := Lib.hid ((bel_alloc (bel_alloc HB0.out (.cells z9 40)) (.cells z5 42)))
    have K1 := Lib.hid (((K0.out.alloc (.cells z9 40)).alloc (.cells z5 42)))
    obtain ⟨g1, hg1⟩ : ∃ g1, g1 = w.heap.size := ⟨_, rfl⟩
    obtain ⟨W1, hW1⟩ : ∃ W1, W1 = ((w).alloc (.cells z9 40)).alloc (.cells z5 42) := ⟨_, rfl⟩
    have hs1 : g1 + 1 + 1 ≤ W1.heap.size := by rw [hW1, hg1]; simp
    rw [← hW1] at T1 H1 F1 O1 B1 K1 ⊢
    have hb1 : w.heap.size ≤ g1 := by omega
    rw [← hg1] at H1 F1 ⊢
    clear hg1
    clear hW1 T0 O0 HB0 K0
    have hcs : g1 + 1 + 1 ≤ W1.heap.size := by omega
    refine wp_region_table (X := Option Addr × Nat) (none, 0) (I0 := fun w' => Below W1.heap.size W1 w') (I1 := fun xJ w' => Kep tb (B) [3] W1 w' ∧ BoxAt w' tb #[.slice f l c, .bool on, .int .i64 tf, .int .i64 tg, .slice xJ.1 (R.length + Q.length) xJ.2, .bool on1, .int .i64 of1, .int .i64 og1, .int .i64 pg, .int .i64 acc1, .int .i64 cur, .int .i64 lv] 58 ∧ OwnI w' (B) (.slice xJ.1 (R.length + Q.length) xJ.2) (R ++ Q)) (lo := W1.heap.size) (c := 11) (U := [⟨(some 9), .con (.pointer (some ⟨tb, 0, none⟩))⟩, ⟨(some 10), .con (.pointer (some ⟨tb, 0, none⟩))⟩, ⟨(some 11), .con (.pointer (some ⟨tb, 0, none⟩))⟩, ⟨(some 12), .con (.pointer (some ⟨tb, 0, none⟩))⟩, ⟨(some 13), .con (.pointer (some ⟨tb, 0, none⟩))⟩, ⟨(some 14), .con (.pointer (some ⟨tb, 10, none⟩))⟩, ⟨(some 15), .ld (.int .i64 cur)⟩, ⟨(some 16), .con (.pointer (some ⟨tb, 0, none⟩))⟩, ⟨(some 17), .con (.pointer (some ⟨tb, 0, none⟩))⟩, ⟨(some 18), .con (.pointer (some ⟨tb, 9, none⟩))⟩, ⟨(some 19), .ld (.int .i64 acc1)⟩, ⟨(some 20), .cal fun xJ => .tuple #[.agg #[.int .i64 hf, .int .i64 hm, .bool hr, .bool hw, .bool hx, .bool ha, .bool hn, .int .i64 hs, .int .i64 hl], .agg #[.int .i64 fk, .int .i64 fs, .int .i64 fl, .bool fw, .int .i64 fp]]⟩, ⟨(some 8), .res fun xJ => .tuple #[.agg #[.int .i64 hf, .int .i64 hm, .bool hr, .bool hw, .bool hx, .bool ha, .bool hn, .int .i64 hs, .int .i64 hl], .agg #[.int .i64 fk, .int .i64 fs, .int .i64 fl, .bool fw, .int .i64 fp]]⟩, ⟨(some 21), .res fun xJ => .agg #[.int .i64 hf, .int .i64 hm, .bool hr, .bool hw, .bool hx, .bool ha, .bool hn, .int .i64 hs, .int .i64 hl]⟩, ⟨(some 22), .res fun xJ => .agg #[.int .i64 fk, .int .i64 fs, .int .i64 fl, .bool fw, .int .i64 fp]⟩, ⟨(some 6), .new 40 #[.int .i64 0, .int .i64 0, .bool false, .bool false, .bool false, .bool false, .bool false, .int .i64 0, .int .i64 0]⟩, ⟨(some 7), .new 42 #[.int .i64 0, .int .i64 0, .int .i64 0, .bool false, .int .i64 0]⟩, ⟨none, .sto 15 fun xJ => #[.int .i64 hf, .int .i64 hm, .bool hr, .bool hw, .bool hx, .bool ha, .bool hn, .int .i64 hs, .int .i64 hl]⟩, ⟨none, .sto 16 fun xJ => #[.int .i64 fk, .int .i64 fs, .int .i64 fl, .bool fw, .int .i64 fp]⟩])
      (V := fun xJ => .tuple #[.agg #[.int .i64 hf, .int .i64 hm, .bool hr, .bool hw, .bool hx, .bool ha, .bool hn, .int .i64 hs, .int .i64 hl], .agg #[.int .i64 fk, .int .i64 fs, .int .i64 fl, .bool fw, .int .i64 fp]]) (f := 34) (args := #[.pointer (some ⟨tb, 0, none⟩), .int .i64 cur, .int .i64 acc1]) (dc := some 20) (by kernel_rfl) (fun _ _ => rfl) (by kernel_rfl) (by kernel_rfl) rfl
      (AllObl.all ⟨fun _ _ _ => by kernel_rfl, fun _ _ _ => by kernel_rfl, fun _ _ _ => by kernel_rfl, fun _ _ _ => by kernel_rfl, fun _ _ _ => by kernel_rfl, fun _ _ _ => by kernel_rfl, fun _ _ _ hJ => run_ld1 3 (.tmp 14) tb 10 (by kernel_rfl) (by kernel_rfl) Tryz.underlying3 rfl ((T1.out.below hJ).get 10 (.int .i64 cur) rfl), fun _ _ _ => by kernel_rfl, fun _ _ _ => by kernel_rfl, fun _ _ _ => by kernel_rfl, fun _ _ _ hJ => run_ld1 3 (.tmp 18) tb 9 (by kernel_rfl) (by kernel_rfl) Tryz.underlying3 rfl ((T1.out.below hJ).get 9 (.int .i64 acc1) rfl), trivial, fun _ _ _ => by kernel_rfl, fun _ _ _ => by kernel_rfl, fun _ _ _ => by kernel_rfl, fun _ _ _ => by kernel_rfl, fun _ _ _ => by kernel_rfl, ⟨_, _, _, rfl, fun _ _ _ hJ => run_stoB 40 (.tmp 6) (.tmp 21) _ (by kernel_rfl) (by kernel_rfl) (by kernel_rfl) (by kernel_rfl) (by rfl) (by simp [Value.oneCell']) hJ⟩, ⟨_, _, _, rfl, fun _ _ _ hJ => run_stoB 42 (.tmp 7) (.tmp 22) _ (by kernel_rfl) (by kernel_rfl) (by kernel_rfl) (by kernel_rfl) (by rfl) (by simp [Value.oneCell']) hJ⟩, trivial⟩)
      (fun _ oJ hJ => bel_alloc hJ oJ) (fun xJ _ oJ hJ => ⟨hJ.1.alloc oJ, hJ.2.1.alloc oJ, hJ.2.2.alloc oJ⟩) (fun xJ _ bJ csJ dsJ tJ iJ zJ dJ hiJ hbJ hxJ hJ => ⟨hJ.1.row bJ dsJ hbJ, hJ.2.1.row (show tb ≠ bJ by omega), hJ.2.2.rowN (hJ.2.2.ne_box hxJ (fun eJ => newsOk_spec (bad := [3]) (by kernel_rfl) hiJ (by rw [eJ]; exact List.mem_cons_self ..)))⟩) (fun _ hJ => hJ.size) (fun xJ _ hJ => hJ.1.size) (fun _ _ _ _ => by kernel_rfl)
      (fun wJ hJ => (HR.out _ (bel_trans B1.out hJ) (by have := hJ.size; first | omega | (simp; done) | (simp; omega)) (O1.out.below hJ) (T1.out.below hJ)).mono (by rintro _ w2J ⟨f, c, rfl, qT, qO, qW⟩; exact ⟨(f, c), rfl, ⟨(Kep.of hJ).trans qW, qT, qO⟩, fun bJ csJ tJ iJ zJ dJ hiJ hlJ hxJ => qW.box hxJ (newsOk_spec (by kernel_rfl) hiJ) (show bJ ≠ tb by omega)⟩)) (Below.drew (Below.refl _ _)) ?_
    rintro ⟨f2, c2⟩ βJ w2c ⟨q2_0, q2_1, q2_2⟩ hNW
    obtain ⟨hbG2, QG2⟩ := hNW.full 15 17 (by kernel_rfl) rfl rfl
    obtain ⟨hbJ2, QJ2⟩ := hNW.full 16 18 (by kernel_rfl) rfl rfl
    have hn2_01 := hNW.ne 15 16 _ _ _ _ _ _ rfl rfl rfl rfl (by decide)
    clear hNW
    simp only [putU, if_true, Act.put, Knd.val, List.setIfInBounds_toArray, List.set_cons_zero, List.set_cons_succ]
    generalize βJ 15 = bG at *
    generalize βJ 16 = bJ at *
    clear βJ
    have hz2 := q2_0.size
    have T2 := Lib.hid (q2_1)
    have H2 := Lib.hid ((q2_0.box H1.out (by decide) (show g1 ≠ tb by omega)))
    have F2 := Lib.hid ((q2_0.box F1.out (by decide) (show g1 + 1 ≠ tb by omega)))
    have O2 := Lib.hid (q2_2)
    have B2 := Lib.hid ((q2_0.under B1.out (by first | omega | (simp; done) | (simp; omega)) (show w0.heap.size ≤ tb by omega) (show w0.heap.size ≤ B by omega)))
    have K2 := Lib.hid ((K1.out.trans q2_0))
    have Gn2 := Lib.hid (QG2)
    have Jn2 := Lib.hid (QJ2)
    obtain ⟨m2, hm2⟩ : ∃ m2, m2 = w2c.heap.size := ⟨_, rfl⟩
    have hbm2 : g1 + 1 + 1 ≤ m2 := by omega
    have hlG2 : bG + 1 ≤ m2 := by rw [hm2]; exact QG2.lt
    have hgG2 : g1 + 1 + 1 ≤ bG := by omega
    have hlJ2 : bJ + 1 ≤ m2 := by rw [hm2]; exact QJ2.lt
    have hgJ2 : g1 + 1 + 1 ≤ bJ := by omega
    have hs2 : m2 ≤ w2c.heap.size := by omega
    clear hm2 hz2 hcs q2_0 q2_1 q2_2 QG2 hbG2 QJ2 hbJ2 T1 H1 F1 O1 B1 K1 hs1
    have Jc0 := Jn2.out.get 0 (.int .i64 fk) rfl
    have Jc1 := Jn2.out.get 1 (.int .i64 fs) rfl
    have Jc2 := Jn2.out.get 2 (.int .i64 fl) rfl
    have Jc3 := Jn2.out.get 3 (.bool fw) rfl
    have Jc4 := Jn2.out.get 4 (.int .i64 fp) rfl
    go_wp2_with fail
    refine (HIF.out _ _ _ _ _ _).mono ?_
    rintro e w3 ⟨rfl, hb3⟩
    have hz3 := hb3.size
    have T3 := Lib.hid (T2.out.below hb3)
    have H3 := Lib.hid (H2.out.below hb3)
    have F3 := Lib.hid (F2.out.below hb3)
    have G3 := Lib.hid (Gn2.out.below hb3)
    have J3 := Lib.hid (Jn2.out.below hb3)
    have O3 := Lib.hid (O2.out.below hb3)
    have B3 := Lib.hid (bel_trans B2.out hb3)
    have K3 := Lib.hid (K2.out.step hb3)
    skip
    have hs3 : m2 ≤ w3.heap.size := by omega
    clear Jc0 Jc1 Jc2 Jc3 Jc4
    clear T2 H2 F2 Gn2 Jn2 O2 B2 K2 hs2 hb3 hz3
    go_upto_region 3 with fail
    refine wp_region_held_drew (S := (fun w' => BoxAt w' (bJ) #[.int .i64 fk, .int .i64 fs, .int .i64 fl, .bool fw, .int .i64 fp] 42)) (by kernel_rfl) (J3.out.drew) (fun hS => ?_)
    refine tkR 0 25 (v := .agg #[.int .i64 0, .int .i64 0, .bool false, .bool false, .bool false, .bool false, .bool false, .int .i64 0, .int .i64 0]) rfl hS (fun _ _ => by kernel_rfl) ?_
    refine tkR 1 26 (v := .agg #[.int .i64 fk, .int .i64 fs, .int .i64 fl, .bool fw, .int .i64 fp]) rfl hS (fun _ h => run_ldN 42 (.tmp 7) bJ 0 (by kernel_rfl) (by kernel_rfl) Tryz.underlying42 rfl (by kernel_rfl) ((h).sub 0 _ rfl)) ?_
    try simp only [Act.put, List.setIfInBounds_toArray, List.set_cons_zero, List.set_cons_succ]
    refine wpAnyH_ready (rs := [2]) (by kernel_rfl) (by simp) ?_
    refine AllReadyH.cons (o := ⟨none, _, _, _, _, _⟩) rfl (fun K hK => ?_) AllReadyH.nil
    refine step_storeB rfl 40 _ _ rfl _ _ _ 40 rfl rfl (by kernel_rfl) (by rfl) (by simp [Value.oneCell']) (H3.out.drew) ?_
    refine hK.out _ _ ?_ (fun hS' => ?_)
    · exact (hS.row (show bJ ≠ g1 by omega))
    clear hK K hS
    have hS := hS'
    clear hS'
    try simp only [Act.put]
    try simp only [Act.put, List.setIfInBounds_toArray, List.set_cons_zero, List.set_cons_succ]
    refine wpAnyH_ready (rs := [3]) (by kernel_rfl) (by simp) ?_
    refine AllReadyH.cons (o := ⟨none, _, _, _, _, _⟩) rfl (fun K hK => ?_) AllReadyH.nil
    refine step_storeB rfl 42 _ _ rfl _ _ _ 42 rfl rfl (by kernel_rfl) (by rfl) (by simp [Value.oneCell']) ((F3.out.drew).row (cs' := #[.int .i64 0, .int .i64 0, .bool false, .bool false, .bool false, .bool false, .bool false, .int .i64 0, .int .i64 0]) (show g1 + 1 ≠ g1 by omega)) ?_
    refine hK.out _ _ ?_ (fun hS' => ?_)
    · exact (hS.row (show bJ ≠ g1 + 1 by omega))
    clear hK K hS
    have hS := hS'
    clear hS'
    try simp only [Act.put]
    refine wpAnyH_done (by kernel_rfl) ?_ _
    try simp only [Act.put, List.setIfInBounds_toArray, List.set_cons_zero, List.set_cons_succ]
    have T4 := Lib.hid ((((T3.out.drew).row (cs' := #[.int .i64 0, .int .i64 0, .bool false, .bool false, .bool false, .bool false, .bool false, .int .i64 0, .int .i64 0]) (show tb ≠ g1 by omega)).row (cs' := #[.int .i64 fk, .int .i64 fs, .int .i64 fl, .bool fw, .int .i64 fp]) (show tb ≠ g1 + 1 by omega)))
    have H4 := Lib.hid ((((H3.out.drew).put (cs' := #[.int .i64 0, .int .i64 0, .bool false, .bool false, .bool false, .bool false, .bool false, .int .i64 0, .int .i64 0])).row (cs' := #[.int .i64 fk, .int .i64 fs, .int .i64 fl, .bool fw, .int .i64 fp]) (show g1 ≠ g1 + 1 by omega)))
    have F4 := Lib.hid ((((F3.out.drew).row (cs' := #[.int .i64 0, .int .i64 0, .bool false, .bool false, .bool false, .bool false, .bool false, .int .i64 0, .int .i64 0]) (show g1 + 1 ≠ g1 by omega)).put (cs' := #[.int .i64 fk, .int .i64 fs, .int .i64 fl, .bool fw, .int .i64 fp])))
    have G4 := Lib.hid ((((G3.out.drew).row (cs' := #[.int .i64 0, .int .i64 0, .bool false, .bool false, .bool false, .bool false, .bool false, .int .i64 0, .int .i64 0]) (show bG ≠ g1 by omega)).row (cs' := #[.int .i64 fk, .int .i64 fs, .int .i64 fl, .bool fw, .int .i64 fp]) (show bG ≠ g1 + 1 by omega)))
    have J4 := Lib.hid ((((J3.out.drew).row (cs' := #[.int .i64 0, .int .i64 0, .bool false, .bool false, .bool false, .bool false, .bool false, .int .i64 0, .int .i64 0]) (show bJ ≠ g1 by omega)).row (cs' := #[.int .i64 fk, .int .i64 fs, .int .i64 fl, .bool fw, .int .i64 fp]) (show bJ ≠ g1 + 1 by omega)))
    have O4 := Lib.hid ((((O3.out.drew).rowN (cs := #[.int .i64 0, .int .i64 0, .bool false, .bool false, .bool false, .bool false, .bool false, .int .i64 0, .int .i64 0]) (O3.out.ne_box H3.out (by decide))).rowN (cs := #[.int .i64 fk, .int .i64 fs, .int .i64 fl, .bool fw, .int .i64 fp]) (O3.out.ne_box F3.out (by decide))))
    have B4 := Lib.hid ((Below.rowB (g := g1 + 1) (Below.rowB (g := g1) (Below.drew B3.out) (cs := #[.int .i64 0, .int .i64 0, .bool false, .bool false, .bool false, .bool false, .bool false, .int .i64 0, .int .i64 0]) (show w0.heap.size ≤ g1 by omega)) (cs := #[.int .i64 fk, .int .i64 fs, .int .i64 fl, .bool fw, .int .i64 fp]) (show w0.heap.size ≤ g1 + 1 by omega)))
    have K4 := Lib.hid ((((K3.out.drew).row (g1) #[.int .i64 0, .int .i64 0, .bool false, .bool false, .bool false, .bool false, .bool false, .int .i64 0, .int .i64 0] (show w.heap.size ≤ g1 by omega)).row (g1 + 1) #[.int .i64 fk, .int .i64 fs, .int .i64 fl, .bool fw, .int .i64 fp] (show w.heap.size ≤ g1 + 1 by omega)))
    obtain ⟨W4, hW4⟩ : ∃ W4, W4 = (((w3).drew).setRow (g1) #[.int .i64 0, .int .i64 0, .bool false, .bool false, .bool false, .bool false, .bool false, .int .i64 0, .int .i64 0]).setRow (g1 + 1) #[.int .i64 fk, .int .i64 fs, .int .i64 fl, .bool fw, .int .i64 fp] := ⟨_, rfl⟩
    have hs4 : m2 ≤ W4.heap.size := by rw [hW4]; first | exact hs3 | (simp; omega)
    rw [← hW4] at T4 H4 F4 G4 J4 O4 B4 K4 ⊢
    clear hW4 T3 H3 F3 G3 J3 O3 B3 K3 hs3
    go_wp2
    have RH := H4.out
    have RF := F4.out
    refine bodyPost_ret (v := .tuple #[.agg #[.int .i64 0, .int .i64 0, .bool false, .bool false, .bool false, .bool false, .bool false, .int .i64 0, .int .i64 0], .agg #[.int .i64 fk, .int .i64 fs, .int .i64 fl, .bool fw, .int .i64 fp]]) (by simp [results, Tryz.results26, go_sem, RH.get 0 (.int .i64 0) rfl, RH.get 1 (.int .i64 0) rfl, RH.get 2 (.bool false) rfl, RH.get 3 (.bool false) rfl, RH.get 4 (.bool false) rfl, RH.get 5 (.bool false) rfl, RH.get 6 (.bool false) rfl, RH.get 7 (.int .i64 0) rfl, RH.get 8 (.int .i64 0) rfl, RF.get 0 (.int .i64 fk) rfl, RF.get 1 (.int .i64 fs) rfl, RF.get 2 (.int .i64 fl) rfl, RF.get 3 (.bool fw) rfl, RF.get 4 (.int .i64 fp) rfl]) rfl ?_
    have e1 : (R ++ Q).length = R.length + Q.length := by simp
    refine ⟨f2, c2, rfl, ?_, ?_, K4.out⟩
    · simp only [e1]; exact T4.out
    · simp only [e1]; exact O4.out
set_option maxRecDepth 100000 in
set_option maxHeartbeats 3200000 in
theorem nlandS_any (f : Option Addr) (l c : Nat) (X : Nat → BitVec 64) (on : Bool) (tf tg : Int) (on1 : Bool) (of1 og1 pg acc1 cur lv : Int) (t : Atr) (ab : Nat) (f' : Option Addr) (c' : Nat) (R : List Int) (tb B : Nat) (w0 w : World) (hac : numB acc1 2 = true) (hX : WordsAt w0 f l X) (hlc : l ≤ c) (hM : okM l = true) (t0 : 0 ≤ tf) (t1 : tf ≤ 4095)
    (hB0 : Below w0.heap.size w0 w) (h0 : w0.heap.size ≤ tb) (hBw : B ≤ w.heap.size) (htB : tb < B) (hO : OwnI w B (.slice f' R.length c') R) (hk : R.length ≤ 50) (m0 : 0 ≤ cur) (m1 : cur ≤ 4095) (hT : BoxAt w tb #[.slice f l c, .bool on, .int .i64 tf, .int .i64 tg, .slice f' R.length c', .bool on1, .int .i64 of1, .int .i64 og1, .int .i64 pg, .int .i64 acc1, .int .i64 cur, .int .i64 lv] 58) (hab : BoxAt w ab (atrC t) 38) (hne : ab ≠ tb) :
    Calls Tryz.prog 26 #[.pointer (some ⟨tb, 0, none⟩), .slice (some ⟨ab, 0, none⟩) 1 1] w (LandN f l c on tf tg on1 of1 og1 pg acc1 cur lv tb B R (landD l X on tf cur acc1 lv [t]) w) := by
  have HR := Lib.hid (fun W hB0 hBw hO hT => nreachT_any f l c X on tf tg on1 of1 og1 pg acc1 cur lv cur acc1 f' c' R tb B w0 W hac hX hlc hM t0 t1 m0 m1 hB0 h0 hBw htB hO (by omega) hT)
  have HIF := Lib.hid (fun fk fs fl fw fp W => nfault_any ⟨fk, fs, fl, fw, fp⟩ W)
  unfold fltV at HIF
  simp only at HIF
  have hq4 := (midD_len l X on tf t0 cur acc1 m0)
  have T0 := Lib.hid hT
  have O0 := Lib.hid hO
  have HB0 := Lib.hid hB0
  have HX := Lib.hid hX
  have K0 := Lib.hid (Kep.refl (tb := tb) (B := B) (ow := [3]) w)
  clear hX hB0 hT hO
  clear t0 t1 m0 m1 hlc hM hac HX
  have hlb : ab < w.heap.size := hab.lt
  have A0 := Lib.hid hab
  clear hab
  obtain ⟨tr, tw, tx, ta, tn, ts⟩ := t
  unfold atrC at A0
  simp only at A0
  unfold landD
  generalize midD l X on tf cur acc1 = q at *
  obtain ⟨⟨hf, hm, ⟨hr, hw, hx, ha, hn, hs⟩, hl⟩, ⟨fk, fs, fl, fw, fp⟩, Q⟩ := q
  simp only at hq4 ⊢
  by_cases hk0 : fk = 0
  · rw [if_pos hk0]
    have df : (fk != 0) = false := by rw [hk0]; rfl
    clear hk0
    obtain ⟨r, hr0⟩ : ∃ r, r = bothL ([(⟨tr, tw, tx, ta, tn, ts⟩ : Atr)] ++ [(⟨hr, hw, hx, ha, hn, hs⟩ : Atr)]) := ⟨_, rfl⟩
    have HBo := Lib.hid (fun fz nz cz W hLz hnz => bothC fz nz cz ([(⟨tr, tw, tx, ta, tn, ts⟩ : Atr)] ++ [(⟨hr, hw, hx, ha, hn, hs⟩ : Atr)]) W hLz hnz (by simp))
    rw [← hr0] at HBo ⊢
    clear hr0
    obtain ⟨br, bw, bx, ba, bn, bs⟩ := r
    unfold atrV atrC at HBo
    simp only at HBo
    go_enter Tryz.func26, Tryz.ntmps26
    go_upto_region 1 with fail
    have T1 := Lib.hid (((T0.out.alloc (.cells z9 40)).alloc (.cells z5 42)))
    have A1 := Lib.hid (((A0.out.alloc (.cells z9 40)).alloc (.cells z5 42)))
    have H1 := Lib.hid (((BoxAt.newAt (w) z9 40 (w.heap.size) (by first | omega | (simp; done) | (simp; omega))).alloc (.cells z5 42)))
    have F1 := Lib.hid ((BoxAt.newAt ((w).alloc (.cells z9 40)) z5 42 (w.heap.size + 1) (by first | omega | (simp; done) | (simp; omega))))
    have O1 := Lib.hid (((O0.out.alloc (.cells z9 40)).alloc (.cells z5 42)))
    have B1 := Lib.hid ((bel_alloc (bel_alloc HB0.out (.cells z9 40)) (.cells z5 42)))
    have K1 := Lib.hid (((K0.out.alloc (.cells z9 40)).alloc (.cells z5 42)))
    obtain ⟨g1, hg1⟩ : ∃ g1, g1 = w.heap.size := ⟨_, rfl⟩
    obtain ⟨W1, hW1⟩ : ∃ W1, W1 = ((w).alloc (.cells z9 40)).alloc (.cells z5 42) := ⟨_, rfl⟩
    have hs1 : g1 + 1 + 1 ≤ W1.heap.size := by rw [hW1, hg1]; simp
    rw [← hW1] at T1 A1 H1 F1 O1 B1 K1 ⊢
    have hb1 : w.heap.size ≤ g1 := by omega
    rw [← hg1] at H1 F1 ⊢
    clear hg1
    clear hW1 T0 A0 O0 HB0 K0
    have hcs : g1 + 1 + 1 ≤ W1.heap.size := by omega
    refine wp_region_table (X := Option Addr × Nat) (none, 0) (I0 := fun w' => Below W1.heap.size W1 w') (I1 := fun xJ w' => Kep tb (B) [3] W1 w' ∧ BoxAt w' tb #[.slice f l c, .bool on, .int .i64 tf, .int .i64 tg, .slice xJ.1 (R.length + Q.length) xJ.2, .bool on1, .int .i64 of1, .int .i64 og1, .int .i64 pg, .int .i64 acc1, .int .i64 cur, .int .i64 lv] 58 ∧ OwnI w' (B) (.slice xJ.1 (R.length + Q.length) xJ.2) (R ++ Q)) (lo := W1.heap.size) (c := 11) (U := [⟨(some 9), .con (.pointer (some ⟨tb, 0, none⟩))⟩, ⟨(some 10), .con (.pointer (some ⟨tb, 0, none⟩))⟩, ⟨(some 11), .con (.pointer (some ⟨tb, 0, none⟩))⟩, ⟨(some 12), .con (.pointer (some ⟨tb, 0, none⟩))⟩, ⟨(some 13), .con (.pointer (some ⟨tb, 0, none⟩))⟩, ⟨(some 14), .con (.pointer (some ⟨tb, 10, none⟩))⟩, ⟨(some 15), .ld (.int .i64 cur)⟩, ⟨(some 16), .con (.pointer (some ⟨tb, 0, none⟩))⟩, ⟨(some 17), .con (.pointer (some ⟨tb, 0, none⟩))⟩, ⟨(some 18), .con (.pointer (some ⟨tb, 9, none⟩))⟩, ⟨(some 19), .ld (.int .i64 acc1)⟩, ⟨(some 20), .cal fun xJ => .tuple #[.agg #[.int .i64 hf, .int .i64 hm, .bool hr, .bool hw, .bool hx, .bool ha, .bool hn, .int .i64 hs, .int .i64 hl], .agg #[.int .i64 fk, .int .i64 fs, .int .i64 fl, .bool fw, .int .i64 fp]]⟩, ⟨(some 8), .res fun xJ => .tuple #[.agg #[.int .i64 hf, .int .i64 hm, .bool hr, .bool hw, .bool hx, .bool ha, .bool hn, .int .i64 hs, .int .i64 hl], .agg #[.int .i64 fk, .int .i64 fs, .int .i64 fl, .bool fw, .int .i64 fp]]⟩, ⟨(some 21), .res fun xJ => .agg #[.int .i64 hf, .int .i64 hm, .bool hr, .bool hw, .bool hx, .bool ha, .bool hn, .int .i64 hs, .int .i64 hl]⟩, ⟨(some 22), .res fun xJ => .agg #[.int .i64 fk, .int .i64 fs, .int .i64 fl, .bool fw, .int .i64 fp]⟩, ⟨(some 6), .new 40 #[.int .i64 0, .int .i64 0, .bool false, .bool false, .bool false, .bool false, .bool false, .int .i64 0, .int .i64 0]⟩, ⟨(some 7), .new 42 #[.int .i64 0, .int .i64 0, .int .i64 0, .bool false, .int .i64 0]⟩, ⟨none, .sto 15 fun xJ => #[.int .i64 hf, .int .i64 hm, .bool hr, .bool hw, .bool hx, .bool ha, .bool hn, .int .i64 hs, .int .i64 hl]⟩, ⟨none, .sto 16 fun xJ => #[.int .i64 fk, .int .i64 fs, .int .i64 fl, .bool fw, .int .i64 fp]⟩])
      (V := fun xJ => .tuple #[.agg #[.int .i64 hf, .int .i64 hm, .bool hr, .bool hw, .bool hx, .bool ha, .bool hn, .int .i64 hs, .int .i64 hl], .agg #[.int .i64 fk, .int .i64 fs, .int .i64 fl, .bool fw, .int .i64 fp]]) (f := 34) (args := #[.pointer (some ⟨tb, 0, none⟩), .int .i64 cur, .int .i64 acc1]) (dc := some 20) (by kernel_rfl) (fun _ _ => rfl) (by kernel_rfl) (by kernel_rfl) rfl
      (AllObl.all ⟨fun _ _ _ => by kernel_rfl, fun _ _ _ => by kernel_rfl, fun _ _ _ => by kernel_rfl, fun _ _ _ => by kernel_rfl, fun _ _ _ => by kernel_rfl, fun _ _ _ => by kernel_rfl, fun _ _ _ hJ => run_ld1 3 (.tmp 14) tb 10 (by kernel_rfl) (by kernel_rfl) Tryz.underlying3 rfl ((T1.out.below hJ).get 10 (.int .i64 cur) rfl), fun _ _ _ => by kernel_rfl, fun _ _ _ => by kernel_rfl, fun _ _ _ => by kernel_rfl, fun _ _ _ hJ => run_ld1 3 (.tmp 18) tb 9 (by kernel_rfl) (by kernel_rfl) Tryz.underlying3 rfl ((T1.out.below hJ).get 9 (.int .i64 acc1) rfl), trivial, fun _ _ _ => by kernel_rfl, fun _ _ _ => by kernel_rfl, fun _ _ _ => by kernel_rfl, fun _ _ _ => by kernel_rfl, fun _ _ _ => by kernel_rfl, ⟨_, _, _, rfl, fun _ _ _ hJ => run_stoB 40 (.tmp 6) (.tmp 21) _ (by kernel_rfl) (by kernel_rfl) (by kernel_rfl) (by kernel_rfl) (by rfl) (by simp [Value.oneCell']) hJ⟩, ⟨_, _, _, rfl, fun _ _ _ hJ => run_stoB 42 (.tmp 7) (.tmp 22) _ (by kernel_rfl) (by kernel_rfl) (by kernel_rfl) (by kernel_rfl) (by rfl) (by simp [Value.oneCell']) hJ⟩, trivial⟩)
      (fun _ oJ hJ => bel_alloc hJ oJ) (fun xJ _ oJ hJ => ⟨hJ.1.alloc oJ, hJ.2.1.alloc oJ, hJ.2.2.alloc oJ⟩) (fun xJ _ bJ csJ dsJ tJ iJ zJ dJ hiJ hbJ hxJ hJ => ⟨hJ.1.row bJ dsJ hbJ, hJ.2.1.row (show tb ≠ bJ by omega), hJ.2.2.rowN (hJ.2.2.ne_box hxJ (fun eJ => newsOk_spec (bad := [3]) (by kernel_rfl) hiJ (by rw [eJ]; exact List.mem_cons_self ..)))⟩) (fun _ hJ => hJ.size) (fun xJ _ hJ => hJ.1.size) (fun _ _ _ _ => by kernel_rfl)
      (fun wJ hJ => (HR.out _ (bel_trans B1.out hJ) (by have := hJ.size; first | omega | (simp; done) | (simp; omega)) (O1.out.below hJ) (T1.out.below hJ)).mono (by rintro _ w2J ⟨f, c, rfl, qT, qO, qW⟩; exact ⟨(f, c), rfl, ⟨(Kep.of hJ).trans qW, qT, qO⟩, fun bJ csJ tJ iJ zJ dJ hiJ hlJ hxJ => qW.box hxJ (newsOk_spec (by kernel_rfl) hiJ) (show bJ ≠ tb by omega)⟩)) (Below.drew (Below.refl _ _)) ?_
    rintro ⟨f2, c2⟩ βJ w2c ⟨q2_0, q2_1, q2_2⟩ hNW
    obtain ⟨hbG2, QG2⟩ := hNW.full 15 17 (by kernel_rfl) rfl rfl
    obtain ⟨hbJ2, QJ2⟩ := hNW.full 16 18 (by kernel_rfl) rfl rfl
    have hn2_01 := hNW.ne 15 16 _ _ _ _ _ _ rfl rfl rfl rfl (by decide)
    clear hNW
    simp only [putU, if_true, Act.put, Knd.val, List.setIfInBounds_toArray, List.set_cons_zero, List.set_cons_succ]
    generalize βJ 15 = bG at *
    generalize βJ 16 = bJ at *
    clear βJ
    have hz2 := q2_0.size
    have T2 := Lib.hid (q2_1)
    have A2 := Lib.hid ((q2_0.box A1.out (by decide) (show ab ≠ tb by omega)))
    have H2 := Lib.hid ((q2_0.box H1.out (by decide) (show g1 ≠ tb by omega)))
    have F2 := Lib.hid ((q2_0.box F1.out (by decide) (show g1 + 1 ≠ tb by omega)))
    have O2 := Lib.hid (q2_2)
    have B2 := Lib.hid ((q2_0.under B1.out (by first | omega | (simp; done) | (simp; omega)) (show w0.heap.size ≤ tb by omega) (show w0.heap.size ≤ B by omega)))
    have K2 := Lib.hid ((K1.out.trans q2_0))
    have Gn2 := Lib.hid (QG2)
    have Jn2 := Lib.hid (QJ2)
    obtain ⟨m2, hm2⟩ : ∃ m2, m2 = w2c.heap.size := ⟨_, rfl⟩
    have hbm2 : g1 + 1 + 1 ≤ m2 := by omega
    have hlG2 : bG + 1 ≤ m2 := by rw [hm2]; exact QG2.lt
    have hgG2 : g1 + 1 + 1 ≤ bG := by omega
    have hlJ2 : bJ + 1 ≤ m2 := by rw [hm2]; exact QJ2.lt
    have hgJ2 : g1 + 1 + 1 ≤ bJ := by omega
    have hs2 : m2 ≤ w2c.heap.size := by omega
    clear hm2 hz2 hcs q2_0 q2_1 q2_2 QG2 hbG2 QJ2 hbJ2 T1 A1 H1 F1 O1 B1 K1 hs1
    have Jc0 := Jn2.out.get 0 (.int .i64 fk) rfl
    have Jc1 := Jn2.out.get 1 (.int .i64 fs) rfl
    have Jc2 := Jn2.out.get 2 (.int .i64 fl) rfl
    have Jc3 := Jn2.out.get 3 (.bool fw) rfl
    have Jc4 := Jn2.out.get 4 (.int .i64 fp) rfl
    go_wp2_with fail
    refine (HIF.out _ _ _ _ _ _).mono ?_
    rintro e w3 ⟨rfl, hb3⟩
    have hz3 := hb3.size
    have T3 := Lib.hid (T2.out.below hb3)
    have A3 := Lib.hid (A2.out.below hb3)
    have H3 := Lib.hid (H2.out.below hb3)
    have F3 := Lib.hid (F2.out.below hb3)
    have G3 := Lib.hid (Gn2.out.below hb3)
    have J3 := Lib.hid (Jn2.out.below hb3)
    have O3 := Lib.hid (O2.out.below hb3)
    have B3 := Lib.hid (bel_trans B2.out hb3)
    have K3 := Lib.hid (K2.out.step hb3)
    skip
    have hs3 : m2 ≤ w3.heap.size := by omega
    clear Jc0 Jc1 Jc2 Jc3 Jc4
    clear T2 A2 H2 F2 Gn2 Jn2 O2 B2 K2 hs2 hb3 hz3
    have Gc2 := G3.out.get 2 (.bool hr) rfl
    have Gc3 := G3.out.get 3 (.bool hw) rfl
    have Gc4 := G3.out.get 4 (.bool hx) rfl
    have Gc5 := G3.out.get 5 (.bool ha) rfl
    have Gc6 := G3.out.get 6 (.bool hn) rfl
    have Gc7 := G3.out.get 7 (.int .i64 hs) rfl
    go_wp2_with (at_builtin; refine wpList_growR (K := KA) rfl _ _ rfl (some ⟨ab, 0, none⟩) 1 [(⟨tr, tw, tx, ta, tn, ts⟩ : Atr)] rfl rfl (fun h => by cases h) (rows_one (K := KA) (t := ⟨tr, tw, tx, ta, tn, ts⟩) (A3.out.alloc (.cells #[.bool hr, .bool hw, .bool hx, .bool ha, .bool hn, .int .i64 hs] 38))) _ 1 (⟨hr, hw, hx, ha, hn, hs⟩ : Atr) rfl (fun i hi => (BoxAt.newAt (w3) #[.bool hr, .bool hw, .bool hx, .bool ha, .bool hn, .int .i64 hs] 38 (w3.heap.size) (by first | omega | (simp; done) | (simp; omega))).cell i) (by decide) ?_; intro f4a c4a w4 hO4 hb4; clear Gc2 Gc3 Gc4 Gc5 Gc6 Gc7; have hz4 := hb4.size; simp at hz4; have T4 := Lib.hid ((T3.out.alloc (.cells #[.bool hr, .bool hw, .bool hx, .bool ha, .bool hn, .int .i64 hs] 38)).below hb4); have A4 := Lib.hid ((A3.out.alloc (.cells #[.bool hr, .bool hw, .bool hx, .bool ha, .bool hn, .int .i64 hs] 38)).below hb4); have H4 := Lib.hid ((H3.out.alloc (.cells #[.bool hr, .bool hw, .bool hx, .bool ha, .bool hn, .int .i64 hs] 38)).below hb4); have F4 := Lib.hid ((F3.out.alloc (.cells #[.bool hr, .bool hw, .bool hx, .bool ha, .bool hn, .int .i64 hs] 38)).below hb4); have G4 := Lib.hid ((G3.out.alloc (.cells #[.bool hr, .bool hw, .bool hx, .bool ha, .bool hn, .int .i64 hs] 38)).below hb4); have J4 := Lib.hid ((J3.out.alloc (.cells #[.bool hr, .bool hw, .bool hx, .bool ha, .bool hn, .int .i64 hs] 38)).below hb4); have O4 := Lib.hid ((O3.out.alloc (.cells #[.bool hr, .bool hw, .bool hx, .bool ha, .bool hn, .int .i64 hs] 38)).below hb4); have B4 := Lib.hid (bel_trans (bel_alloc B3.out (.cells #[.bool hr, .bool hw, .bool hx, .bool ha, .bool hn, .int .i64 hs] 38)) hb4); have K4 := Lib.hid ((K3.out.alloc (.cells #[.bool hr, .bool hw, .bool hx, .bool ha, .bool hn, .int .i64 hs] 38)).step hb4); have hs4 : m2 ≤ w4.heap.size := (by omega); have Q4 := Lib.hid (OwnR.mono hO4 (base' := w.heap.size) (by first | omega | (simp; done) | (simp; omega))); clear T3 A3 H3 F3 G3 J3 O3 B3 K3 hb4 hO4 hz4 hs3)
    refine (HBo.out _ _ _ _ Q4.out.rows.2 rfl).mono ?_
    rintro e w5 ⟨rfl, hb5⟩
    have hz5 := hb5.size
    have T5 := Lib.hid (T4.out.below hb5)
    have A5 := Lib.hid (A4.out.below hb5)
    have H5 := Lib.hid (H4.out.below hb5)
    have F5 := Lib.hid (F4.out.below hb5)
    have G5 := Lib.hid (G4.out.below hb5)
    have J5 := Lib.hid (J4.out.below hb5)
    have O5 := Lib.hid (O4.out.below hb5)
    have Q5 := Lib.hid (Q4.out.below hb5)
    have B5 := Lib.hid (bel_trans B4.out hb5)
    have K5 := Lib.hid (K4.out.step hb5)
    skip
    have hs5 : m2 ≤ w5.heap.size := by omega
    clear T4 A4 H4 F4 G4 J4 O4 Q4 B4 K4 hs4 hb5 hz5
    have Gc2 := G5.out.get 2 (.bool hr) rfl
    have Gc3 := G5.out.get 3 (.bool hw) rfl
    have Gc4 := G5.out.get 4 (.bool hx) rfl
    have Gc5 := G5.out.get 5 (.bool ha) rfl
    have Gc6 := G5.out.get 6 (.bool hn) rfl
    have Gc7 := G5.out.get 7 (.int .i64 hs) rfl
    have Gz2 := G5.out.free 2
    have Gz3 := G5.out.free 3
    have Gz4 := G5.out.free 4
    have Gz5 := G5.out.free 5
    have Gz6 := G5.out.free 6
    have Gz7 := G5.out.free 7
    go_upto_region 5 with fail
    clear Gc2 Gc3 Gc4 Gc5 Gc6 Gc7 Gz2 Gz3 Gz4 Gz5 Gz6 Gz7
    have T6 := Lib.hid (((((((T5.out.other ⟨bG, 2, none⟩ (.bool br) (show tb ≠ bG by omega)).other ⟨bG, 3, none⟩ (.bool bw) (show tb ≠ bG by omega)).other ⟨bG, 4, none⟩ (.bool bx) (show tb ≠ bG by omega)).other ⟨bG, 5, none⟩ (.bool ba) (show tb ≠ bG by omega)).other ⟨bG, 6, none⟩ (.bool bn) (show tb ≠ bG by omega)).other ⟨bG, 7, none⟩ (.int .i64 bs) (show tb ≠ bG by omega)))
    have A6 := Lib.hid (((((((A5.out.other ⟨bG, 2, none⟩ (.bool br) (show ab ≠ bG by omega)).other ⟨bG, 3, none⟩ (.bool bw) (show ab ≠ bG by omega)).other ⟨bG, 4, none⟩ (.bool bx) (show ab ≠ bG by omega)).other ⟨bG, 5, none⟩ (.bool ba) (show ab ≠ bG by omega)).other ⟨bG, 6, none⟩ (.bool bn) (show ab ≠ bG by omega)).other ⟨bG, 7, none⟩ (.int .i64 bs) (show ab ≠ bG by omega)))
    have H6 := Lib.hid (((((((H5.out.other ⟨bG, 2, none⟩ (.bool br) (show g1 ≠ bG by omega)).other ⟨bG, 3, none⟩ (.bool bw) (show g1 ≠ bG by omega)).other ⟨bG, 4, none⟩ (.bool bx) (show g1 ≠ bG by omega)).other ⟨bG, 5, none⟩ (.bool ba) (show g1 ≠ bG by omega)).other ⟨bG, 6, none⟩ (.bool bn) (show g1 ≠ bG by omega)).other ⟨bG, 7, none⟩ (.int .i64 bs) (show g1 ≠ bG by omega)))
    have F6 := Lib.hid (((((((F5.out.other ⟨bG, 2, none⟩ (.bool br) (show g1 + 1 ≠ bG by omega)).other ⟨bG, 3, none⟩ (.bool bw) (show g1 + 1 ≠ bG by omega)).other ⟨bG, 4, none⟩ (.bool bx) (show g1 + 1 ≠ bG by omega)).other ⟨bG, 5, none⟩ (.bool ba) (show g1 + 1 ≠ bG by omega)).other ⟨bG, 6, none⟩ (.bool bn) (show g1 + 1 ≠ bG by omega)).other ⟨bG, 7, none⟩ (.int .i64 bs) (show g1 + 1 ≠ bG by omega)))
    have G6 := Lib.hid (((((((G5.out.set 2 (.bool br) #[.int .i64 hf, .int .i64 hm, .bool br, .bool hw, .bool hx, .bool ha, .bool hn, .int .i64 hs, .int .i64 hl] rfl).set 3 (.bool bw) #[.int .i64 hf, .int .i64 hm, .bool br, .bool bw, .bool hx, .bool ha, .bool hn, .int .i64 hs, .int .i64 hl] rfl).set 4 (.bool bx) #[.int .i64 hf, .int .i64 hm, .bool br, .bool bw, .bool bx, .bool ha, .bool hn, .int .i64 hs, .int .i64 hl] rfl).set 5 (.bool ba) #[.int .i64 hf, .int .i64 hm, .bool br, .bool bw, .bool bx, .bool ba, .bool hn, .int .i64 hs, .int .i64 hl] rfl).set 6 (.bool bn) #[.int .i64 hf, .int .i64 hm, .bool br, .bool bw, .bool bx, .bool ba, .bool bn, .int .i64 hs, .int .i64 hl] rfl).set 7 (.int .i64 bs) #[.int .i64 hf, .int .i64 hm, .bool br, .bool bw, .bool bx, .bool ba, .bool bn, .int .i64 bs, .int .i64 hl] rfl))
    have J6 := Lib.hid (((((((J5.out.other ⟨bG, 2, none⟩ (.bool br) (show bJ ≠ bG by omega)).other ⟨bG, 3, none⟩ (.bool bw) (show bJ ≠ bG by omega)).other ⟨bG, 4, none⟩ (.bool bx) (show bJ ≠ bG by omega)).other ⟨bG, 5, none⟩ (.bool ba) (show bJ ≠ bG by omega)).other ⟨bG, 6, none⟩ (.bool bn) (show bJ ≠ bG by omega)).other ⟨bG, 7, none⟩ (.int .i64 bs) (show bJ ≠ bG by omega)))
    have O6 := Lib.hid (((((((O5.out.otherN ⟨bG, 2, none⟩ (.bool br) (O5.out.ne_box G5.out (by decide))).otherN ⟨bG, 3, none⟩ (.bool bw) (O5.out.ne_box G5.out (by decide))).otherN ⟨bG, 4, none⟩ (.bool bx) (O5.out.ne_box G5.out (by decide))).otherN ⟨bG, 5, none⟩ (.bool ba) (O5.out.ne_box G5.out (by decide))).otherN ⟨bG, 6, none⟩ (.bool bn) (O5.out.ne_box G5.out (by decide))).otherN ⟨bG, 7, none⟩ (.int .i64 bs) (O5.out.ne_box G5.out (by decide))))
    have Q6 := Lib.hid (((((((Q5.out.otherN ⟨bG, 2, none⟩ (.bool br) (Q5.out.ne_box G5.out (by decide))).otherN ⟨bG, 3, none⟩ (.bool bw) (Q5.out.ne_box G5.out (by decide))).otherN ⟨bG, 4, none⟩ (.bool bx) (Q5.out.ne_box G5.out (by decide))).otherN ⟨bG, 5, none⟩ (.bool ba) (Q5.out.ne_box G5.out (by decide))).otherN ⟨bG, 6, none⟩ (.bool bn) (Q5.out.ne_box G5.out (by decide))).otherN ⟨bG, 7, none⟩ (.int .i64 bs) (Q5.out.ne_box G5.out (by decide))))
    have B6 := Lib.hid ((Below.setCell (Below.setCell (Below.setCell (Below.setCell (Below.setCell (Below.setCell B5.out (p := ⟨bG, 2, none⟩) (show w0.heap.size ≤ bG by omega) (.bool br)) (p := ⟨bG, 3, none⟩) (show w0.heap.size ≤ bG by omega) (.bool bw)) (p := ⟨bG, 4, none⟩) (show w0.heap.size ≤ bG by omega) (.bool bx)) (p := ⟨bG, 5, none⟩) (show w0.heap.size ≤ bG by omega) (.bool ba)) (p := ⟨bG, 6, none⟩) (show w0.heap.size ≤ bG by omega) (.bool bn)) (p := ⟨bG, 7, none⟩) (show w0.heap.size ≤ bG by omega) (.int .i64 bs)))
    have K6 := Lib.hid (((((((K5.out.high ⟨bG, 2, none⟩ (.bool br) (show w.heap.size ≤ bG by omega)).high ⟨bG, 3, none⟩ (.bool bw) (show w.heap.size ≤ bG by omega)).high ⟨bG, 4, none⟩ (.bool bx) (show w.heap.size ≤ bG by omega)).high ⟨bG, 5, none⟩ (.bool ba) (show w.heap.size ≤ bG by omega)).high ⟨bG, 6, none⟩ (.bool bn) (show w.heap.size ≤ bG by omega)).high ⟨bG, 7, none⟩ (.int .i64 bs) (show w.heap.size ≤ bG by omega)))
    obtain ⟨W6, hW6⟩ : ∃ W6, W6 = ((((((w5).setCell ⟨bG, 2, none⟩ (.bool br)).setCell ⟨bG, 3, none⟩ (.bool bw)).setCell ⟨bG, 4, none⟩ (.bool bx)).setCell ⟨bG, 5, none⟩ (.bool ba)).setCell ⟨bG, 6, none⟩ (.bool bn)).setCell ⟨bG, 7, none⟩ (.int .i64 bs) := ⟨_, rfl⟩
    have hs6 : m2 ≤ W6.heap.size := by rw [hW6]; first | (simp [World.setCell]; omega) | (simp [World.setCell, World.setRow]; omega) | exact hs5
    rw [← hW6] at T6 A6 H6 F6 G6 J6 O6 Q6 B6 K6 ⊢
    clear hW6 T5 A5 H5 F5 G5 J5 O5 Q5 B5 K5 hs5
    have Tc11 := T6.out.get 11 (.int .i64 lv) rfl
    have Gc8 := G6.out.get 8 (.int .i64 hl) rfl
    have Gz8 := G6.out.free 8
    go_upto_region 6 with fail
    clear Tc11 Gc8 Gz8
    have T7 := Lib.hid ((T6.out.other ⟨bG, 8, none⟩ (.int .i64 lv) (show tb ≠ bG by omega)))
    have A7 := Lib.hid ((A6.out.other ⟨bG, 8, none⟩ (.int .i64 lv) (show ab ≠ bG by omega)))
    have H7 := Lib.hid ((H6.out.other ⟨bG, 8, none⟩ (.int .i64 lv) (show g1 ≠ bG by omega)))
    have F7 := Lib.hid ((F6.out.other ⟨bG, 8, none⟩ (.int .i64 lv) (show g1 + 1 ≠ bG by omega)))
    have G7 := Lib.hid ((G6.out.set 8 (.int .i64 lv) #[.int .i64 hf, .int .i64 hm, .bool br, .bool bw, .bool bx, .bool ba, .bool bn, .int .i64 bs, .int .i64 lv] rfl))
    have J7 := Lib.hid ((J6.out.other ⟨bG, 8, none⟩ (.int .i64 lv) (show bJ ≠ bG by omega)))
    have O7 := Lib.hid ((O6.out.otherN ⟨bG, 8, none⟩ (.int .i64 lv) (O6.out.ne_box G6.out (by decide))))
    have Q7 := Lib.hid ((Q6.out.otherN ⟨bG, 8, none⟩ (.int .i64 lv) (Q6.out.ne_box G6.out (by decide))))
    have B7 := Lib.hid ((Below.setCell B6.out (p := ⟨bG, 8, none⟩) (show w0.heap.size ≤ bG by omega) (.int .i64 lv)))
    have K7 := Lib.hid ((K6.out.high ⟨bG, 8, none⟩ (.int .i64 lv) (show w.heap.size ≤ bG by omega)))
    obtain ⟨W7, hW7⟩ : ∃ W7, W7 = (W6).setCell ⟨bG, 8, none⟩ (.int .i64 lv) := ⟨_, rfl⟩
    have hs7 : m2 ≤ W7.heap.size := by rw [hW7]; first | (simp [World.setCell]; omega) | (simp [World.setCell, World.setRow]; omega) | exact hs6
    rw [← hW7] at T7 A7 H7 F7 G7 J7 O7 Q7 B7 K7 ⊢
    clear hW7 T6 A6 H6 F6 G6 J6 O6 Q6 B6 K6 hs6
    have Gc0 := G7.out.get 0 (.int .i64 hf) rfl
    have Gc1 := G7.out.get 1 (.int .i64 hm) rfl
    have Gc2 := G7.out.get 2 (.bool br) rfl
    have Gc3 := G7.out.get 3 (.bool bw) rfl
    have Gc4 := G7.out.get 4 (.bool bx) rfl
    have Gc5 := G7.out.get 5 (.bool ba) rfl
    have Gc6 := G7.out.get 6 (.bool bn) rfl
    have Gc7 := G7.out.get 7 (.int .i64 bs) rfl
    have Gc8 := G7.out.get 8 (.int .i64 lv) rfl
    go_wp2_with (first | (refine wpList_storeB rfl 40 _ _ rfl (g1) #[.int .i64 hf, .int .i64 hm, .bool br, .bool bw, .bool bx, .bool ba, .bool bn, .int .i64 bs, .int .i64 lv] _ 40 rfl rfl (by kernel_rfl) (by rfl) (by simp [Value.oneCell']) H7.out ?_) | (refine wpList_storeB rfl 42 _ _ rfl (g1 + 1) #[.int .i64 0, .int .i64 0, .int .i64 0, .bool false, .int .i64 0] _ 42 rfl rfl (by kernel_rfl) (by rfl) (by simp [Value.oneCell']) (F7.out.row (cs' := #[.int .i64 hf, .int .i64 hm, .bool br, .bool bw, .bool bx, .bool ba, .bool bn, .int .i64 bs, .int .i64 lv]) (show g1 + 1 ≠ g1 by omega)) ?_))
    have RH := ((H7.out.put (cs' := #[.int .i64 hf, .int .i64 hm, .bool br, .bool bw, .bool bx, .bool ba, .bool bn, .int .i64 bs, .int .i64 lv])).row (cs' := #[.int .i64 0, .int .i64 0, .int .i64 0, .bool false, .int .i64 0]) (show g1 ≠ g1 + 1 by omega))
    have RF := ((F7.out.row (cs' := #[.int .i64 hf, .int .i64 hm, .bool br, .bool bw, .bool bx, .bool ba, .bool bn, .int .i64 bs, .int .i64 lv]) (show g1 + 1 ≠ g1 by omega)).put (cs' := #[.int .i64 0, .int .i64 0, .int .i64 0, .bool false, .int .i64 0]))
    refine bodyPost_ret (v := .tuple #[.agg #[.int .i64 hf, .int .i64 hm, .bool br, .bool bw, .bool bx, .bool ba, .bool bn, .int .i64 bs, .int .i64 lv], .agg #[.int .i64 0, .int .i64 0, .int .i64 0, .bool false, .int .i64 0]]) (by simp [results, Tryz.results26, go_sem, RH.get 0 (.int .i64 hf) rfl, RH.get 1 (.int .i64 hm) rfl, RH.get 2 (.bool br) rfl, RH.get 3 (.bool bw) rfl, RH.get 4 (.bool bx) rfl, RH.get 5 (.bool ba) rfl, RH.get 6 (.bool bn) rfl, RH.get 7 (.int .i64 bs) rfl, RH.get 8 (.int .i64 lv) rfl, RF.get 0 (.int .i64 0) rfl, RF.get 1 (.int .i64 0) rfl, RF.get 2 (.int .i64 0) rfl, RF.get 3 (.bool false) rfl, RF.get 4 (.int .i64 0) rfl]) rfl ?_
    have e1 : (R ++ Q).length = R.length + Q.length := by simp
    refine ⟨f2, c2, rfl, ?_, ?_, ((K7.out.row (g1) #[.int .i64 hf, .int .i64 hm, .bool br, .bool bw, .bool bx, .bool ba, .bool bn, .int .i64 bs, .int .i64 lv] (show w.heap.size ≤ g1 by omega)).row (g1 + 1) #[.int .i64 0, .int .i64 0, .int .i64 0, .bool false, .int .i64 0] (show w.heap.size ≤ g1 + 1 by omega))⟩
    · simp only [e1]; exact ((T7.out.row (cs' := #[.int .i64 hf, .int .i64 hm, .bool br, .bool bw, .bool bx, .bool ba, .bool bn, .int .i64 bs, .int .i64 lv]) (show tb ≠ g1 by omega)).row (cs' := #[.int .i64 0, .int .i64 0, .int .i64 0, .bool false, .int .i64 0]) (show tb ≠ g1 + 1 by omega))
    · simp only [e1]; exact ((O7.out.rowN (cs := #[.int .i64 hf, .int .i64 hm, .bool br, .bool bw, .bool bx, .bool ba, .bool bn, .int .i64 bs, .int .i64 lv]) (O7.out.ne_box H7.out (by decide))).rowN (cs := #[.int .i64 0, .int .i64 0, .int .i64 0, .bool false, .int .i64 0]) (O7.out.ne_box F7.out (by decide)))
  · rw [if_neg hk0]
    have df : (fk != 0) = true := by simp [hk0]
    clear hk0
    go_enter Tryz.func26, Tryz.ntmps26
    go_upto_region 1 with fail
    have T1 := Lib.hid (((T0.out.alloc (.cells z9 40)).alloc (.cells z5 42)))
    have A1 := Lib.hid (((A0.out.alloc (.cells z9 40)).alloc (.cells z5 42)))
    have H1 := Lib.hid (((BoxAt.newAt (w) z9 40 (w.heap.size) (by first | omega | (simp; done) | (simp; omega))).alloc (.cells z5 42)))
    have F1 := Lib.hid ((BoxAt.newAt ((w).alloc (.cells z9 40)) z5 42 (w.heap.size + 1) (by first | omega | (simp; done) | (simp; omega))))
    have O1 := Lib.hid (((O0.out.alloc (.cells z9 40)).alloc (.cells z5 42)))
    have B1 := Lib.hid ((bel_alloc (bel_alloc HB0.out (.cells z9 40)) (.cells z5 42)))
    have K1 := Lib.hid (((K0.out.alloc (.cells z9 40)).alloc (.cells z5 42)))
    obtain ⟨g1, hg1⟩ : ∃ g1, g1 = w.heap.size := ⟨_, rfl⟩
    obtain ⟨W1, hW1⟩ : ∃ W1, W1 = ((w).alloc (.cells z9 40)).alloc (.cells z5 42) := ⟨_, rfl⟩
    have hs1 : g1 + 1 + 1 ≤ W1.heap.size := by rw [hW1, hg1]; simp
    rw [← hW1] at T1 A1 H1 F1 O1 B1 K1 ⊢
    have hb1 : w.heap.size ≤ g1 := by omega
    rw [← hg1] at H1 F1 ⊢
    clear hg1
    clear hW1 T0 A0 O0 HB0 K0
    have hcs : g1 + 1 + 1 ≤ W1.heap.size := by omega
    refine wp_region_table (X := Option Addr × Nat) (none, 0) (I0 := fun w' => Below W1.heap.size W1 w') (I1 := fun xJ w' => Kep tb (B) [3] W1 w' ∧ BoxAt w' tb #[.slice f l c, .bool on, .int .i64 tf, .int .i64 tg, .slice xJ.1 (R.length + Q.length) xJ.2, .bool on1, .int .i64 of1, .int .i64 og1, .int .i64 pg, .int .i64 acc1, .int .i64 cur, .int .i64 lv] 58 ∧ OwnI w' (B) (.slice xJ.1 (R.length + Q.length) xJ.2) (R ++ Q)) (lo := W1.heap.size) (c := 11) (U := [⟨(some 9), .con (.pointer (some ⟨tb, 0, none⟩))⟩, ⟨(some 10), .con (.pointer (some ⟨tb, 0, none⟩))⟩, ⟨(some 11), .con (.pointer (some ⟨tb, 0, none⟩))⟩, ⟨(some 12), .con (.pointer (some ⟨tb, 0, none⟩))⟩, ⟨(some 13), .con (.pointer (some ⟨tb, 0, none⟩))⟩, ⟨(some 14), .con (.pointer (some ⟨tb, 10, none⟩))⟩, ⟨(some 15), .ld (.int .i64 cur)⟩, ⟨(some 16), .con (.pointer (some ⟨tb, 0, none⟩))⟩, ⟨(some 17), .con (.pointer (some ⟨tb, 0, none⟩))⟩, ⟨(some 18), .con (.pointer (some ⟨tb, 9, none⟩))⟩, ⟨(some 19), .ld (.int .i64 acc1)⟩, ⟨(some 20), .cal fun xJ => .tuple #[.agg #[.int .i64 hf, .int .i64 hm, .bool hr, .bool hw, .bool hx, .bool ha, .bool hn, .int .i64 hs, .int .i64 hl], .agg #[.int .i64 fk, .int .i64 fs, .int .i64 fl, .bool fw, .int .i64 fp]]⟩, ⟨(some 8), .res fun xJ => .tuple #[.agg #[.int .i64 hf, .int .i64 hm, .bool hr, .bool hw, .bool hx, .bool ha, .bool hn, .int .i64 hs, .int .i64 hl], .agg #[.int .i64 fk, .int .i64 fs, .int .i64 fl, .bool fw, .int .i64 fp]]⟩, ⟨(some 21), .res fun xJ => .agg #[.int .i64 hf, .int .i64 hm, .bool hr, .bool hw, .bool hx, .bool ha, .bool hn, .int .i64 hs, .int .i64 hl]⟩, ⟨(some 22), .res fun xJ => .agg #[.int .i64 fk, .int .i64 fs, .int .i64 fl, .bool fw, .int .i64 fp]⟩, ⟨(some 6), .new 40 #[.int .i64 0, .int .i64 0, .bool false, .bool false, .bool false, .bool false, .bool false, .int .i64 0, .int .i64 0]⟩, ⟨(some 7), .new 42 #[.int .i64 0, .int .i64 0, .int .i64 0, .bool false, .int .i64 0]⟩, ⟨none, .sto 15 fun xJ => #[.int .i64 hf, .int .i64 hm, .bool hr, .bool hw, .bool hx, .bool ha, .bool hn, .int .i64 hs, .int .i64 hl]⟩, ⟨none, .sto 16 fun xJ => #[.int .i64 fk, .int .i64 fs, .int .i64 fl, .bool fw, .int .i64 fp]⟩])
      (V := fun xJ => .tuple #[.agg #[.int .i64 hf, .int .i64 hm, .bool hr, .bool hw, .bool hx, .bool ha, .bool hn, .int .i64 hs, .int .i64 hl], .agg #[.int .i64 fk, .int .i64 fs, .int .i64 fl, .bool fw, .int .i64 fp]]) (f := 34) (args := #[.pointer (some ⟨tb, 0, none⟩), .int .i64 cur, .int .i64 acc1]) (dc := some 20) (by kernel_rfl) (fun _ _ => rfl) (by kernel_rfl) (by kernel_rfl) rfl
      (AllObl.all ⟨fun _ _ _ => by kernel_rfl, fun _ _ _ => by kernel_rfl, fun _ _ _ => by kernel_rfl, fun _ _ _ => by kernel_rfl, fun _ _ _ => by kernel_rfl, fun _ _ _ => by kernel_rfl, fun _ _ _ hJ => run_ld1 3 (.tmp 14) tb 10 (by kernel_rfl) (by kernel_rfl) Tryz.underlying3 rfl ((T1.out.below hJ).get 10 (.int .i64 cur) rfl), fun _ _ _ => by kernel_rfl, fun _ _ _ => by kernel_rfl, fun _ _ _ => by kernel_rfl, fun _ _ _ hJ => run_ld1 3 (.tmp 18) tb 9 (by kernel_rfl) (by kernel_rfl) Tryz.underlying3 rfl ((T1.out.below hJ).get 9 (.int .i64 acc1) rfl), trivial, fun _ _ _ => by kernel_rfl, fun _ _ _ => by kernel_rfl, fun _ _ _ => by kernel_rfl, fun _ _ _ => by kernel_rfl, fun _ _ _ => by kernel_rfl, ⟨_, _, _, rfl, fun _ _ _ hJ => run_stoB 40 (.tmp 6) (.tmp 21) _ (by kernel_rfl) (by kernel_rfl) (by kernel_rfl) (by kernel_rfl) (by rfl) (by simp [Value.oneCell']) hJ⟩, ⟨_, _, _, rfl, fun _ _ _ hJ => run_stoB 42 (.tmp 7) (.tmp 22) _ (by kernel_rfl) (by kernel_rfl) (by kernel_rfl) (by kernel_rfl) (by rfl) (by simp [Value.oneCell']) hJ⟩, trivial⟩)
      (fun _ oJ hJ => bel_alloc hJ oJ) (fun xJ _ oJ hJ => ⟨hJ.1.alloc oJ, hJ.2.1.alloc oJ, hJ.2.2.alloc oJ⟩) (fun xJ _ bJ csJ dsJ tJ iJ zJ dJ hiJ hbJ hxJ hJ => ⟨hJ.1.row bJ dsJ hbJ, hJ.2.1.row (show tb ≠ bJ by omega), hJ.2.2.rowN (hJ.2.2.ne_box hxJ (fun eJ => newsOk_spec (bad := [3]) (by kernel_rfl) hiJ (by rw [eJ]; exact List.mem_cons_self ..)))⟩) (fun _ hJ => hJ.size) (fun xJ _ hJ => hJ.1.size) (fun _ _ _ _ => by kernel_rfl)
      (fun wJ hJ => (HR.out _ (bel_trans B1.out hJ) (by have := hJ.size; first | omega | (simp; done) | (simp; omega)) (O1.out.below hJ) (T1.out.below hJ)).mono (by rintro _ w2J ⟨f, c, rfl, qT, qO, qW⟩; exact ⟨(f, c), rfl, ⟨(Kep.of hJ).trans qW, qT, qO⟩, fun bJ csJ tJ iJ zJ dJ hiJ hlJ hxJ => qW.box hxJ (newsOk_spec (by kernel_rfl) hiJ) (show bJ ≠ tb by omega)⟩)) (Below.drew (Below.refl _ _)) ?_
    rintro ⟨f2, c2⟩ βJ w2c ⟨q2_0, q2_1, q2_2⟩ hNW
    obtain ⟨hbG2, QG2⟩ := hNW.full 15 17 (by kernel_rfl) rfl rfl
    obtain ⟨hbJ2, QJ2⟩ := hNW.full 16 18 (by kernel_rfl) rfl rfl
    have hn2_01 := hNW.ne 15 16 _ _ _ _ _ _ rfl rfl rfl rfl (by decide)
    clear hNW
    simp only [putU, if_true, Act.put, Knd.val, List.setIfInBounds_toArray, List.set_cons_zero, List.set_cons_succ]
    generalize βJ 15 = bG at *
    generalize βJ 16 = bJ at *
    clear βJ
    have hz2 := q2_0.size
    have T2 := Lib.hid (q2_1)
    have A2 := Lib.hid ((q2_0.box A1.out (by decide) (show ab ≠ tb by omega)))
    have H2 := Lib.hid ((q2_0.box H1.out (by decide) (show g1 ≠ tb by omega)))
    have F2 := Lib.hid ((q2_0.box F1.out (by decide) (show g1 + 1 ≠ tb by omega)))
    have O2 := Lib.hid (q2_2)
    have B2 := Lib.hid ((q2_0.under B1.out (by first | omega | (simp; done) | (simp; omega)) (show w0.heap.size ≤ tb by omega) (show w0.heap.size ≤ B by omega)))
    have K2 := Lib.hid ((K1.out.trans q2_0))
    have Gn2 := Lib.hid (QG2)
    have Jn2 := Lib.hid (QJ2)
    obtain ⟨m2, hm2⟩ : ∃ m2, m2 = w2c.heap.size := ⟨_, rfl⟩
    have hbm2 : g1 + 1 + 1 ≤ m2 := by omega
    have hlG2 : bG + 1 ≤ m2 := by rw [hm2]; exact QG2.lt
    have hgG2 : g1 + 1 + 1 ≤ bG := by omega
    have hlJ2 : bJ + 1 ≤ m2 := by rw [hm2]; exact QJ2.lt
    have hgJ2 : g1 + 1 + 1 ≤ bJ := by omega
    have hs2 : m2 ≤ w2c.heap.size := by omega
    clear hm2 hz2 hcs q2_0 q2_1 q2_2 QG2 hbG2 QJ2 hbJ2 T1 A1 H1 F1 O1 B1 K1 hs1
    have Jc0 := Jn2.out.get 0 (.int .i64 fk) rfl
    have Jc1 := Jn2.out.get 1 (.int .i64 fs) rfl
    have Jc2 := Jn2.out.get 2 (.int .i64 fl) rfl
    have Jc3 := Jn2.out.get 3 (.bool fw) rfl
    have Jc4 := Jn2.out.get 4 (.int .i64 fp) rfl
    go_wp2_with fail
    refine (HIF.out _ _ _ _ _ _).mono ?_
    rintro e w3 ⟨rfl, hb3⟩
    have hz3 := hb3.size
    have T3 := Lib.hid (T2.out.below hb3)
    have A3 := Lib.hid (A2.out.below hb3)
    have H3 := Lib.hid (H2.out.below hb3)
    have F3 := Lib.hid (F2.out.below hb3)
    have G3 := Lib.hid (Gn2.out.below hb3)
    have J3 := Lib.hid (Jn2.out.below hb3)
    have O3 := Lib.hid (O2.out.below hb3)
    have B3 := Lib.hid (bel_trans B2.out hb3)
    have K3 := Lib.hid (K2.out.step hb3)
    skip
    have hs3 : m2 ≤ w3.heap.size := by omega
    clear Jc0 Jc1 Jc2 Jc3 Jc4
    clear T2 A2 H2 F2 Gn2 Jn2 O2 B2 K2 hs2 hb3 hz3
    go_upto_region 3 with fail
    refine wp_region_held_drew (S := (fun w' => BoxAt w' (bJ) #[.int .i64 fk, .int .i64 fs, .int .i64 fl, .bool fw, .int .i64 fp] 42)) (by kernel_rfl) (J3.out.drew) (fun hS => ?_)
    refine tkR 0 25 (v := .agg #[.int .i64 0, .int .i64 0, .bool false, .bool false, .bool false, .bool false, .bool false, .int .i64 0, .int .i64 0]) rfl hS (fun _ _ => by kernel_rfl) ?_
    refine tkR 1 26 (v := .agg #[.int .i64 fk, .int .i64 fs, .int .i64 fl, .bool fw, .int .i64 fp]) rfl hS (fun _ h => run_ldN 42 (.tmp 7) bJ 0 (by kernel_rfl) (by kernel_rfl) Tryz.underlying42 rfl (by kernel_rfl) ((h).sub 0 _ rfl)) ?_
    try simp only [Act.put, List.setIfInBounds_toArray, List.set_cons_zero, List.set_cons_succ]
    refine wpAnyH_ready (rs := [2]) (by kernel_rfl) (by simp) ?_
    refine AllReadyH.cons (o := ⟨none, _, _, _, _, _⟩) rfl (fun K hK => ?_) AllReadyH.nil
    refine step_storeB rfl 40 _ _ rfl _ _ _ 40 rfl rfl (by kernel_rfl) (by rfl) (by simp [Value.oneCell']) (H3.out.drew) ?_
    refine hK.out _ _ ?_ (fun hS' => ?_)
    · exact (hS.row (show bJ ≠ g1 by omega))
    clear hK K hS
    have hS := hS'
    clear hS'
    try simp only [Act.put]
    try simp only [Act.put, List.setIfInBounds_toArray, List.set_cons_zero, List.set_cons_succ]
    refine wpAnyH_ready (rs := [3]) (by kernel_rfl) (by simp) ?_
    refine AllReadyH.cons (o := ⟨none, _, _, _, _, _⟩) rfl (fun K hK => ?_) AllReadyH.nil
    refine step_storeB rfl 42 _ _ rfl _ _ _ 42 rfl rfl (by kernel_rfl) (by rfl) (by simp [Value.oneCell']) ((F3.out.drew).row (cs' := #[.int .i64 0, .int .i64 0, .bool false, .bool false, .bool false, .bool false, .bool false, .int .i64 0, .int .i64 0]) (show g1 + 1 ≠ g1 by omega)) ?_
    refine hK.out _ _ ?_ (fun hS' => ?_)
    · exact (hS.row (show bJ ≠ g1 + 1 by omega))
    clear hK K hS
    have hS := hS'
    clear hS'
    try simp only [Act.put]
    refine wpAnyH_done (by kernel_rfl) ?_ _
    try simp only [Act.put, List.setIfInBounds_toArray, List.set_cons_zero, List.set_cons_succ]
    have T4 := Lib.hid ((((T3.out.drew).row (cs' := #[.int .i64 0, .int .i64 0, .bool false, .bool false, .bool false, .bool false, .bool false, .int .i64 0, .int .i64 0]) (show tb ≠ g1 by omega)).row (cs' := #[.int .i64 fk, .int .i64 fs, .int .i64 fl, .bool fw, .int .i64 fp]) (show tb ≠ g1 + 1 by omega)))
    have A4 := Lib.hid ((((A3.out.drew).row (cs' := #[.int .i64 0, .int .i64 0, .bool false, .bool false, .bool false, .bool false, .bool false, .int .i64 0, .int .i64 0]) (show ab ≠ g1 by omega)).row (cs' := #[.int .i64 fk, .int .i64 fs, .int .i64 fl, .bool fw, .int .i64 fp]) (show ab ≠ g1 + 1 by omega)))
    have H4 := Lib.hid ((((H3.out.drew).put (cs' := #[.int .i64 0, .int .i64 0, .bool false, .bool false, .bool false, .bool false, .bool false, .int .i64 0, .int .i64 0])).row (cs' := #[.int .i64 fk, .int .i64 fs, .int .i64 fl, .bool fw, .int .i64 fp]) (show g1 ≠ g1 + 1 by omega)))
    have F4 := Lib.hid ((((F3.out.drew).row (cs' := #[.int .i64 0, .int .i64 0, .bool false, .bool false, .bool false, .bool false, .bool false, .int .i64 0, .int .i64 0]) (show g1 + 1 ≠ g1 by omega)).put (cs' := #[.int .i64 fk, .int .i64 fs, .int .i64 fl, .bool fw, .int .i64 fp])))
    have G4 := Lib.hid ((((G3.out.drew).row (cs' := #[.int .i64 0, .int .i64 0, .bool false, .bool false, .bool false, .bool false, .bool false, .int .i64 0, .int .i64 0]) (show bG ≠ g1 by omega)).row (cs' := #[.int .i64 fk, .int .i64 fs, .int .i64 fl, .bool fw, .int .i64 fp]) (show bG ≠ g1 + 1 by omega)))
    have J4 := Lib.hid ((((J3.out.drew).row (cs' := #[.int .i64 0, .int .i64 0, .bool false, .bool false, .bool false, .bool false, .bool false, .int .i64 0, .int .i64 0]) (show bJ ≠ g1 by omega)).row (cs' := #[.int .i64 fk, .int .i64 fs, .int .i64 fl, .bool fw, .int .i64 fp]) (show bJ ≠ g1 + 1 by omega)))
    have O4 := Lib.hid ((((O3.out.drew).rowN (cs := #[.int .i64 0, .int .i64 0, .bool false, .bool false, .bool false, .bool false, .bool false, .int .i64 0, .int .i64 0]) (O3.out.ne_box H3.out (by decide))).rowN (cs := #[.int .i64 fk, .int .i64 fs, .int .i64 fl, .bool fw, .int .i64 fp]) (O3.out.ne_box F3.out (by decide))))
    have B4 := Lib.hid ((Below.rowB (g := g1 + 1) (Below.rowB (g := g1) (Below.drew B3.out) (cs := #[.int .i64 0, .int .i64 0, .bool false, .bool false, .bool false, .bool false, .bool false, .int .i64 0, .int .i64 0]) (show w0.heap.size ≤ g1 by omega)) (cs := #[.int .i64 fk, .int .i64 fs, .int .i64 fl, .bool fw, .int .i64 fp]) (show w0.heap.size ≤ g1 + 1 by omega)))
    have K4 := Lib.hid ((((K3.out.drew).row (g1) #[.int .i64 0, .int .i64 0, .bool false, .bool false, .bool false, .bool false, .bool false, .int .i64 0, .int .i64 0] (show w.heap.size ≤ g1 by omega)).row (g1 + 1) #[.int .i64 fk, .int .i64 fs, .int .i64 fl, .bool fw, .int .i64 fp] (show w.heap.size ≤ g1 + 1 by omega)))
    obtain ⟨W4, hW4⟩ : ∃ W4, W4 = (((w3).drew).setRow (g1) #[.int .i64 0, .int .i64 0, .bool false, .bool false, .bool false, .bool false, .bool false, .int .i64 0, .int .i64 0]).setRow (g1 + 1) #[.int .i64 fk, .int .i64 fs, .int .i64 fl, .bool fw, .int .i64 fp] := ⟨_, rfl⟩
    have hs4 : m2 ≤ W4.heap.size := by rw [hW4]; first | exact hs3 | (simp; omega)
    rw [← hW4] at T4 A4 H4 F4 G4 J4 O4 B4 K4 ⊢
    clear hW4 T3 A3 H3 F3 G3 J3 O3 B3 K3 hs3
    go_wp2
    have RH := H4.out
    have RF := F4.out
    refine bodyPost_ret (v := .tuple #[.agg #[.int .i64 0, .int .i64 0, .bool false, .bool false, .bool false, .bool false, .bool false, .int .i64 0, .int .i64 0], .agg #[.int .i64 fk, .int .i64 fs, .int .i64 fl, .bool fw, .int .i64 fp]]) (by simp [results, Tryz.results26, go_sem, RH.get 0 (.int .i64 0) rfl, RH.get 1 (.int .i64 0) rfl, RH.get 2 (.bool false) rfl, RH.get 3 (.bool false) rfl, RH.get 4 (.bool false) rfl, RH.get 5 (.bool false) rfl, RH.get 6 (.bool false) rfl, RH.get 7 (.int .i64 0) rfl, RH.get 8 (.int .i64 0) rfl, RF.get 0 (.int .i64 fk) rfl, RF.get 1 (.int .i64 fs) rfl, RF.get 2 (.int .i64 fl) rfl, RF.get 3 (.bool fw) rfl, RF.get 4 (.int .i64 fp) rfl]) rfl ?_
    have e1 : (R ++ Q).length = R.length + Q.length := by simp
    refine ⟨f2, c2, rfl, ?_, ?_, K4.out⟩
    · simp only [e1]; exact T4.out
    · simp only [e1]; exact O4.out
end
end Go.Proofs.YtalbblaicmdhmaaGreat
