/- Covers and Index: contracts. The engine: a function with a loop behind which more follows that hangs on where it stood. Package desc's own calls, and the reference's Of: contracts. The reference's Table and Walk: contracts. -/
import Derived.Test.YtmelepohdbojlaaGreatDg
import Derived.Test.YtmelepohdbojlaaGreatEw
import Derived.Test.YtmelepohdbojlaaGreatDh
import Derived.Test.YtmelepohdbojlaaGreatDi
import Derived.Test.YtmelepohdbojlaaGreatEq
import Derived.Test.YtmelepohdbojlaaGreatRg
import Derived.Test.YtmelepohdbojlaaGreatMemA
import Derived.Test.YtmelepohdbojlaaGreatEj
set_option linter.all false
namespace Go.Proofs.YtmelepohdbojlaaGreat
section
open Go.ChangeShapes Go.WideShapes Go.ChangeAt Go.RowKit Go.Deep
theorem dcovers_yes (lv : Int) (w : World) (h : numB lv 3 = true) :
  Calls Tryz.prog 207 #[.int .i64 lv] w fun e w' => e = .returned (.tuple #[.int .i64 (cov lv), .int .i64 0]) ∧ w = w' := by
 have hl := numB_iff.1 h
 have HL := Lib.hid (fun W => isLevel_any lv W)
 have HC := Lib.hid (fun W => covers_any lv W hl.1 hl.2)
 rw [h] at HL
 clear h hl
 go_enter Tryz.func207, Tryz.ntmps207
 go_wp2_with (first | (go_at_call 163; refine (HL.out _).mono ?_; rintro e w' ⟨rfl, rfl⟩) | (go_at_call 196; refine (HC.out _).mono ?_; rintro e w' ⟨rfl, rfl⟩))
 go_ret2
 exact ⟨rfl, rfl⟩
def idx (lv p : Int) : Int := p / cov lv % 8
theorem idx_get (lv : Int) (x : BitVec 64) (h0 : 0 ≤ lv) (h1 : lv ≤ 3) : getN x (3 * (3 - lv)) 3 = idx lv (u x) := by
 have hm : ∀ k : Nat, ((x >>> k &&& msk 3).toNat : Int) = (x.toNat : Int) / ((2 ^ k : Nat) : Int) % 8 := by
  intro k
  rw [BitVec.toNat_and, BitVec.toNat_ushiftRight, show (msk 3).toNat = 2 ^ 3 - 1 from by decide, Nat.and_two_pow_sub_one_eq_mod, Nat.shiftRight_eq_div_pow]
  norm_cast
 have hc : lv = 0 ∨ lv = 1 ∨ lv = 2 ∨ lv = 3 := by omega
 unfold getN idx u
 rcases hc with rfl | rfl | rfl | rfl
 ·exact hm 9
 ·exact hm 6
 ·exact hm 3
 ·exact hm 0
theorem dindex_no (lv p : Int) (w : World) (h : (numB lv 3 && numB p 4095) = false) :
  Calls Tryz.prog 153 #[.int .i64 lv, .int .i64 p] w fun e w' => e = .returned (.tuple #[.int .i64 0, .int .i64 1]) ∧ w = w' := by
 have HL := Lib.hid (fun W => isLevel_any lv W)
 have HP := Lib.hid (fun W => isPage_any p W)
 cases h1 : numB lv 3
 ·rw [h1] at HL
  clear h1 h
  go_enter Tryz.func153, Tryz.ntmps153
  go_wp2_with (go_at_call 163; refine (HL.out _).mono ?_; rintro e w' ⟨rfl, rfl⟩)
  go_ret2
  exact ⟨rfl, rfl⟩
 ·rw [h1, Bool.true_and] at h
  rw [h1] at HL
  rw [h] at HP
  clear h1 h
  go_enter Tryz.func153, Tryz.ntmps153
  go_wp2_with (first | (go_at_call 163; refine (HL.out _).mono ?_; rintro e w' ⟨rfl, rfl⟩) | (go_at_call 164; refine (HP.out _).mono ?_; rintro e w' ⟨rfl, rfl⟩))
  go_ret2
  exact ⟨rfl, rfl⟩
theorem dindex_yes (lv p : Int) (w : World) (h1 : numB lv 3 = true) (h2 : numB p 4095 = true) :
  Calls Tryz.prog 153 #[.int .i64 lv, .int .i64 p] w fun e w' => e = .returned (.tuple #[.int .i64 (idx lv p), .int .i64 0]) ∧ Below w.heap.size w w' := by
 have hl := numB_iff.1 h1
 have hp := numB_iff.1 h2
 obtain ⟨x, rfl⟩ := u_of p hp.1 (by omega)
 have HL := Lib.hid (fun W => isLevel_any lv W)
 have HP := Lib.hid (fun W => isPage_any (u x) W)
 have HB := Lib.hid (fun W => below_any lv W hl.1 hl.2)
 have HG := Lib.hid (fun W => get_yes x (3 * (3 - lv)) 3 W (by unfold okB; exact decide_eq_true (by omega)))
 have he : u (x >>> (3 * (3 - lv)).toNat &&& msk 3) = idx lv (u x) := idx_get lv x hl.1 hl.2
 have hb : 0 ≤ idx lv (u x) ∧ idx lv (u x) ≤ 7 := by unfold idx; omega
 rw [he] at HG
 rw [h1] at HL
 rw [h2] at HP
 clear h1 h2 he
 obtain ⟨hb0, hb1⟩ := hb
 generalize idx lv (u x) = g at *
 generalize 3 * (3 - lv) = q at *
 clear hl hp
 go_enter Tryz.func153, Tryz.ntmps153
 go_wp2_with (first | (go_at_call 163; refine (HL.out _).mono ?_; rintro e w' ⟨rfl, rfl⟩) | (go_at_call 164; refine (HP.out _).mono ?_; rintro e w' ⟨rfl, rfl⟩) | (go_at_call 166; refine (HB.out _).mono ?_; rintro e w' ⟨rfl, rfl⟩) | (go_at_call 165; refine (HG.out _).mono ?_; rintro e w' ⟨rfl, rfl⟩))
 go_ret2
 exact ⟨rfl, by go_grown⟩
theorem rindex_any (lv p : Int) (w : World) (h0 : 0 ≤ lv) (h1 : lv ≤ 3) (p0 : 0 ≤ p) (p1 : p ≤ 4095) :
  Calls Tryz.prog 73 #[.int .i64 lv, .int .i64 p] w fun e w' => e = .returned (.int .i64 (idx lv p)) ∧ Below w.heap.size w w' := by
 have HC := Lib.hid (fun W => rcovers_any lv W h0 h1)
 have hi : idx lv p = p / cov lv % 8 := rfl
 rw [hi]
 have hc := cov_pos lv
 clear hi
 generalize cov lv = c at *
 obtain ⟨c1, c2⟩ := hc
 have c0 : c ≠ 0 := by omega
 have d1 : p.tdiv c = p / c := Int.tdiv_eq_ediv_of_nonneg p0
 have d2 : 0 ≤ p / c := Int.ediv_nonneg p0 (by omega)
 have d3 : p / c ≤ 4095 := Int.le_trans (Int.ediv_le_self _ p0) p1
 have d4 : IntKind.i64.wrap (p / c) = p / c := IntWalk.i64_in _ (by omega)
 have d5 : (p / c).tmod 8 = p / c % 8 := Int.tmod_eq_emod_of_nonneg d2
 go_enter Tryz.func73, Tryz.ntmps73
 go_wp2_with (go_at_call 47; refine (HC.out _).mono ?_; rintro e w' ⟨rfl, hb⟩)
 go_ret
 exact ⟨ret_int rfl, hb⟩
section
variable {H : Type} {enc : TypeId × Value → H} {w : World} {base : Nat} {held : Bool}
end
end
section
open Go.ChangeShapes Go.WideShapes Go.ChangeAt Go.RowKit Go.Deep
def seqL : Code → Code
 | .seq x _ => x
 | c => c
def seqR : Code → Code
 | .seq _ y => y
 | _ => .skip
def blkC : Code → Code
 | .block _ x => x
 | c => c
def bodyC (fn : Func) : Code := fn.body.getD .skip
theorem calls_parts {P : Program} {f : FuncId} {fn : Func} {c : Code} {args : Array Value} {w : World} {R : Ending → World → Prop} (hf : P.funcs[f]? = some fn) (hb : fn.body = some c) (hn : Nat.ble args.toList.length fn.ntmps = true)
  (h : ∀ a, Has fn.ntmps (args0 0 args.toList) a → c.wp P (bodyPost P fn R) a w) : Calls P f args w R := by
 refine calls_of_wp hf hb (h _ ⟨rfl, ?_, fun k v hk => ?_⟩)
 ·have hn := Nat.le_of_ble_eq_true hn
  simp at hn ⊢
  omega
 ·obtain ⟨_, h2⟩ := find_args0 _ _ _ _ hk
  simp only [Nat.sub_zero] at h2
  have hlt := (List.getElem?_eq_some_iff.1 h2).1
  rw [Array.getElem?_append_left (by simpa using hlt)]
  simpa using h2
theorem wp_mid {P : Program} {A B C : Code} {id : Nat} {X : Type} {Q : Exit → Act → World → Prop} {a : Act} {w : World} (I : X → Act → World → Prop) (μ : X → Nat) (hA : A.wp P (fun e a w => e = .normal ∧ ∃ x, I x a w) a w)
  (hB : ∀ x a w, I x a w → B.wp P (fun e a' w' => match e with | .normal => ∃ x', I x' a' w' ∧ μ x' < μ x | .exit i => i = id ∧ C.wp P Q a' w' | e => Q e a' w') a w) : (Code.seq A (.seq (.block id (.loop B)) C)).wp P Q a w := by
 refine wp_seq (wp_mono hA ?_)
 rintro e a w ⟨rfl, x, hI⟩
 show (Code.seq (.block id (.loop B)) C).wp P Q a w
 refine wp_seq (wp_block (wp_loop_ex I μ x hI fun x a w hI => wp_mono (hB x a w hI) fun e a w h => ?_))
 cases e with
 | normal => exact h
 | exit i =>
  obtain ⟨rfl, h⟩ := h
  simpa [Exit.then, Exit.inBlock] using h
 | _ => exact h
theorem wpI_ex {P : Program} (hm : P.follows .mixedOrders = true) {n : Nat} (fn : Func) (k : List Itm) {a : Act} {w w0 : World} {R : Ending → World → Prop} {J Q : Exit → Act → World → Prop} {ft : List Nat} (T0 : Sl) (h0 : List Bx) (hs : Hs)
  (hT : Has n T0 a) (hF : Fits ft w0 h0 w) (hh : hs.Ok n P fn ft w0 R J) (hQr : ∀ a w, bodyPost P fn R .ret a w → Q .ret a w) (hQj : ∀ e a w, J (exitOf e) a w → Q (exitOf e) a w)
  (hg : ∀ E : Sup, fstC (exRun n P fn false E 1000 k T0 h0 h0.length hs) = sndC (exRun n P fn false E 1000 k T0 h0 h0.length hs)) : wpI P Q k .normal a w :=
 exRun_sound hm (top := false) hQr (fun h => by cases h) hQj 1000 k h0.length (fun _ => (0, none)) hs a w (fun E _ => ⟨T0, h0, hT, hF, Goods.of (hg E)⟩) hh
def popD (id : Nat) (k : List Itm) : List Itm := (popTo id k).getD []
theorem wp_lp {P : Program} {B : Code} {ks : List Itm} {X : Type} {Q : Exit → Act → World → Prop} {a : Act} {w : World} (I : X → Act → World → Prop) (μ : X → Nat) (x0 : X) (h0 : I x0 a w)
  (round : ∀ x a w, I x a w → B.wp P (fun e a' w' => match e with | .normal => ∃ x', I x' a' w' ∧ μ x' < μ x | e => wpI P Q ks e a' w') a w) : wpI P Q (.code (.loop B) :: ks) .normal a w :=
 wp_loop_ex I μ x0 h0 fun x a w hI => wp_mono (round x a w hI) fun e a w h => by cases e <;> exact h
end
section
open Go.ChangeShapes Go.WideShapes Go.ChangeAt Go.RowKit Go.Deep
theorem check_any (st lv : Int) (k f : Int) (r wr x a n : Bool) (s o : Int) (w : World) (b : Bool) (hb : mayE st lv (Dsc.mk k f r wr x a n s o) = b) :
  Calls Tryz.prog 162 #[.int .i64 st, .int .i64 lv, .agg #[.int .i64 k, .int .i64 f, .bool r, .bool wr, .bool x, .bool a, .bool n, .int .i64 s, .int .i64 o]] w fun e w' => e = .returned (.int .i64 (if b then 0 else 1)) ∧ Below w.heap.size w w' := by
 have HM := Lib.hid (fun W => emayBe_any st lv k f r wr x a n s o W)
 rw [hb] at HM
 clear hb
 cases b
 all_goals
  go_enter Tryz.func162, Tryz.ntmps162
  go_wp2_with (first | (go_at_call 177; refine (entryOf_any _ _ _ _ _ _ _ _ _ _ _ _).mono ?_; rintro e w' ⟨rfl, rfl⟩) | (go_at_call 173; refine (HM.out _).mono ?_; rintro e w' ⟨rfl, hb1⟩))
  go_ret
  exact ⟨rfl, bel_trans (by repeat' (first | exact Below.refl _ _ | refine bel_alloc ?_ _)) hb1⟩
end
section
open Go.ChangeShapes Go.WideShapes Go.ChangeAt Go.RowKit Go.Deep
set_option maxRecDepth 100000 in
set_option maxHeartbeats 800000 in
theorem tblR_any (f : Option Addr) (l c : Nat) (X : Nat → BitVec 64) (st lv fr pg : Int) (w : World) (hX : WordsAt w f l X) (hl : l ≤ 100000) (hp : placeB st lv = true) (p0 : 0 ≤ pg) (p1 : pg ≤ 4095) (f0 : 0 ≤ fr) (f1 : fr * 8 + 8 ≤ l) :
  Calls Tryz.prog 45 #[.agg #[.slice f l c], .int .i64 st, .int .i64 lv, .int .i64 fr, .int .i64 pg] w fun e w' => e = .returned (dscV (tblD X st lv fr pg)) ∧ Below w.heap.size w w' := by
 have hlv := (placeB_iff.1 hp).2
 have HI := Lib.hid (fun W => rindex_any lv pg W hlv.1 hlv.2 p0 p1)
 have HO := Lib.hid (fun v W => rof_any st lv v W hp)
 have hg : 0 ≤ idx lv pg ∧ idx lv pg ≤ 7 := idx_lo lv pg
 have ht : tblD X st lv fr pg = ofD st lv (X (fr * 8 + idx lv pg).toNat) := rfl
 rw [ht]
 clear ht hp hlv
 obtain ⟨b, o, rfl, hc0⟩ := hX (fr * 8 + idx lv pg).toNat (by omega)
 have hc : w.cell? ⟨b, o + (fr * 8 + idx lv pg).toNat, none⟩ = some (.int .u64 (u (X (fr * 8 + idx lv pg).toNat))) := hc0
 clear hc0
 have HV := Lib.hid (fun W => HO.out (X (fr * 8 + idx lv pg).toNat) W)
 clear HO
 generalize X (fr * 8 + idx lv pg).toNat = v at *
 generalize ofD st lv v = d at *
 generalize idx lv pg = g at *
 obtain ⟨g0, g1⟩ := hg
 have i1 : IntKind.i64.wrap (fr * 8) = fr * 8 := IntWalk.i64_in _ (by omega)
 have i2 : IntKind.i64.wrap (fr * 8 + g) = fr * 8 + g := IntWalk.i64_in _ (by omega)
 have i3 : 0 ≤ fr * 8 + g := by omega
 have i4 : fr * 8 + g < (l : Int) := by omega
 have j0 : 0 ≤ fr * 8 := by omega
 obtain ⟨j, hj⟩ : ∃ j, j = (fr * 8 + g).toNat := ⟨_, rfl⟩
 have i5 : (fr * 8 + g).toNat = j := hj.symm
 rw [i5] at hc
 clear hj p0 p1 f1 hX
 have hblt : b < w.heap.size := cell_block hc
 have hne : b ≠ w.heap.size + 1 := by omega
 have X0 := (BoxAt.new w #[.slice (some ⟨b, o, none⟩) l c] 24).alloc (.cells z9 101)
 have x0 := X0.get 0 (.slice (some ⟨b, o, none⟩) l c) rfl
 clear X0
 have Z0 := Lib.hid (BoxAt.drew (BoxAt.new (w.alloc (.cells #[.slice (some ⟨b, o, none⟩) l c] 24)) z9 101))
 rw [show (w.alloc (.cells #[.slice (some ⟨b, o, none⟩) l c] 24)).heap.size = w.heap.size + 1 from by simp] at Z0
 have hc1 := keepc (bel_alloc (bel_alloc (Below.refl w.heap.size w) (.cells #[.slice (some ⟨b, o, none⟩) l c] 24)) (.cells z9 101)) hc
 have B0 := Lib.hid (Below.drew (bel_alloc (bel_alloc (Below.refl w.heap.size w) (.cells #[.slice (some ⟨b, o, none⟩) l c] 24)) (.cells z9 101)))
 clear hc
 go_enter Tryz.func45, Tryz.ntmps45
 go_wp2
 go_region_held3 (fun w' => w'.cell? ⟨w.heap.size, 0, none⟩ = some (.slice (some ⟨b, o, none⟩) l c) ∧ w'.cell? ⟨b, o + j, none⟩ = some (.int .u64 (u v)))
  (refine ⟨?_, ?_⟩ <;> (repeat (first | with_reducible assumption | with_reducible refine cell_keep ?_ _ | with_reducible refine cell_drew ?_ | with_reducible refine cell_set _ hne ?_ | with_reducible refine cell_set _ (by omega) ?_ | (refine keepc hb2 ?_) | (refine keepc hb1 ?_))))
  (first
   | (go_at_call 73; refine (HI.out _).mono ?_; rintro e w1 ⟨rfl, hb1⟩; have Z1 := Lib.hid (Z0.out.below hb1); have B1 := Lib.hid (bel_trans B0.out hb1))
   | (go_at_call 72; refine (HV.out _).mono ?_; rintro e w2 ⟨rfl, hb2⟩; have Z2 := Z1.out.below hb2; have B2 := Lib.hid (bel_trans B1.out hb2); have z0 := Z2.get 0 (.int .i64 0) rfl; have z1 := Z2.get 1 (.int .i64 0) rfl; have z2 := Z2.get 2 (.bool false) rfl; have z3 := Z2.get 3 (.bool false) rfl; have z4 := Z2.get 4 (.bool false) rfl; have z5 := Z2.get 5 (.bool false) rfl; have z6 := Z2.get 6 (.bool false) rfl; have z7 := Z2.get 7 (.int .i64 0) rfl; have z8 := Z2.get 8 (.int .i64 0) rfl; have y0 := Z2.free 0; have y1 := Z2.free 1; have y2 := Z2.free 2; have y3 := Z2.free 3; have y4 := Z2.free 4; have y5 := Z2.free 5; have y6 := Z2.free 6; have y7 := Z2.free 7; have y8 := Z2.free 8; clear Z2; unfold dscV))
 go_wp2
 refine bodyPost_ret (v := .agg #[.int .i64 d.k, .int .i64 d.f, .bool d.r, .bool d.w, .bool d.x, .bool d.a, .bool d.n, .int .i64 d.s, .int .i64 d.o]) (by simp [results, Tryz.results45, go_sem, z0, z1, z2, z3, z4, z5, z6, z7, z8]) rfl ⟨rfl, ?_⟩
 repeat' (first | with_reducible exact B2.out | with_reducible refine Below.setCell ?_ (by first | (simp; done) | (simp; omega)) _)
def WalkEnd (w : World) (q : Hit × Flt × List Int) (e : Ending) (w' : World) : Prop :=
 ∃ f' c', e = .returned (.tuple #[hitV q.1, fltV q.2.1, .slice f' q.2.2.length c']) ∧ OwnI w' w.heap.size (.slice f' q.2.2.length c') q.2.2 ∧ Below w.heap.size w w'
theorem rframesB (f : Option Addr) (l c : Nat) (w : World) (hl : l ≤ 1000000000000000) :
  Calls Tryz.prog 63 #[.agg #[.slice f l c]] w fun e w' => e = .returned (.int .i64 ((l : Int) / 8)) ∧ Below w.heap.size w w' :=
 (rframes_any f l c w hl).mono fun _ _ h => ⟨h.1, by rw [h.2]; exact bel_alloc (Below.refl _ _) _⟩
structure WkrS where
 n : Nat
 fr : Int
 R : List Int
 f : Option Addr
 c : Nat
 lq : Int
set_option maxRecDepth 100000 in
theorem walkR_loop (f : Option Addr) (l c : Nat) (st pg : Int) (fr0 : Int) (X : Nat → BitVec 64) (b4 b8 b9 b12 : Nat) {w0 W : World} {a : Act} {z : Hit × Flt × List Int} (hz : walkD l X st fr0 pg = z) {Q : Exit → Act → World → Prop} (hX : WordsAt w0 f l X) (hM : okM l = true) (hst : st = 1 ∨ st = 2) (p0 : 0 ≤ pg) (p1 : pg ≤ 4095) (g0 : 0 ≤ fr0) (g1 : fr0 ≤ 4095)
  (hT : Has Tryz.f71.ntmps [(1, .int .i64 st), (2, .int .i64 fr0), (3, .int .i64 pg), (4, .pointer (some ⟨b4, 0, none⟩)), (8, .pointer (some ⟨b8, 0, none⟩)), (9, .pointer (some ⟨b9, 0, none⟩)), (11, .slice none ([] : List Int).length 0), (12, .pointer (some ⟨b12, 0, none⟩)), (13, .int .i64 0)] a) (hF : Fits [] w0 [⟨b4, 0, 24, [.slice f l c], .row⟩, ⟨b8, 0, 62, hitC hit0, .own⟩, ⟨b9, 0, 44, fltC flt0, .own⟩, ⟨b12, 0, 44, fltC ⟨0, st, 0, false, pg⟩, .own⟩, ownFx 3 1 none ([] : List Int).length 0 (icells ([] : List Int))] W) (hQr : ∀ a w, bodyPost Tryz.prog Tryz.f71 (WalkEnd w0 z) .ret a w → Q .ret a w) : wpI Tryz.prog Q (.code (nthLoop Tryz.f71 0) :: restAt Tryz.f71 0) .normal a W := by
 have e33 : (3 : Int) - ((3 : Nat) : Int) = 0 := by decide
 rw [show nthLoop Tryz.f71 0 = .loop (bodyOf (nthLoop Tryz.f71 0)) from by kernel_rfl]
 refine wp_lp (fun (x : WkrS) a w => x.n ≤ 3 ∧ 0 ≤ x.fr ∧ x.fr ≤ 4095 ∧ (x.R.length : Int) = 3 - x.n ∧ walkS ((l : Int) / 8) (fun lv f => tblD X st lv f pg) st pg (x.n + 1) (3 - x.n) x.fr x.R = z ∧ Has Tryz.f71.ntmps [(1, .int .i64 st), (2, .int .i64 x.fr), (3, .int .i64 pg), (4, .pointer (some ⟨b4, 0, none⟩)), (8, .pointer (some ⟨b8, 0, none⟩)), (9, .pointer (some ⟨b9, 0, none⟩)), (11, .slice x.f x.R.length x.c), (12, .pointer (some ⟨b12, 0, none⟩)), (13, .int .i64 (3 - x.n))] a ∧ Fits [] w0 [⟨b4, 0, 24, [.slice f l c], .row⟩, ⟨b8, 0, 62, hitC hit0, .own⟩, ⟨b9, 0, 44, fltC flt0, .own⟩, ⟨b12, 0, 44, fltC ⟨0, st, x.lq, false, pg⟩, .own⟩, ownFx 3 1 x.f x.R.length x.c (icells x.R)] w) (fun x => x.n) ⟨3, fr0, [], none, 0, 0⟩ ⟨Nat.le_refl 3, g0, g1, by simp only [e33] <;> rfl, by simp only [e33]; exact hz, by simp only [e33]; exact hT, hF⟩ fun x a w hI => ?_
 clear hT hF hz
 obtain ⟨n, fr, R, fR, cR, lq⟩ := x
 obtain ⟨hn, f0, f1, hlen, hz, hT, hF⟩ := hI
 simp only at hn f0 f1 hlen hz hT hF
 obtain ⟨lv, hlv⟩ : ∃ lv, 3 - (n : Int) = lv := ⟨_, rfl⟩
 rw [hlv] at hlen hz hT
 have l0 : 0 ≤ lv := by omega
 have h4 : decide ((lv : Int) < 4) = true := decide_eq_true (by omega)
 have hpl : placeB st lv = true := placeB_iff.2 ⟨hst, by omega, by omega⟩
 have hdf := tbl_frame X st lv fr pg
 have hm := mod_cov pg lv p0
 have hl9 : IntKind.i64.wrap (lv + 1) = lv + 1 := IntWalk.i64_in _ (by omega)
 have hw9 : IntKind.i64.wrap ((tblD X st lv fr pg).f + (pg % cov lv)) = (tblD X st lv fr pg).f + pg % cov lv := IntWalk.i64_in _ (by omega)
 have hc9 : cov lv ≠ 0 := by have := cov_pos lv; omega
 have ht9 : Int.tmod pg (cov lv) = pg % cov lv := Int.tmod_eq_emod_of_nonneg p0
 have h13 : (tblD X st lv fr pg).k = 1 → lv ≠ 3 := fun h => by rcases tbl_kind X st lv fr pg with h1 | h1 | h1 <;> omega
 exact wp_ex mixedT Tryz.f71 [(1, .int .i64 st), (2, .int .i64 fr), (3, .int .i64 pg), (4, .pointer (some ⟨b4, 0, none⟩)), (8, .pointer (some ⟨b8, 0, none⟩)), (9, .pointer (some ⟨b9, 0, none⟩)), (11, .slice fR R.length cR), (12, .pointer (some ⟨b12, 0, none⟩)), (13, .int .i64 lv)] [⟨b4, 0, 24, [.slice f l c], .row⟩, ⟨b8, 0, 62, (hitC hit0), .own⟩, ⟨b9, 0, 44, (fltC flt0), .own⟩, ⟨b12, 0, 44, [.int .i64 0, .int .i64 st, .int .i64 lq, .bool false, .int .i64 pg], .own⟩, ownFx 3 1 fR R.length cR (icells R)] (.r 4 [(1, .rw (fun _ => .bool (decide ((lv : Int) < 4))) (fun _ => .bool true))] (.r 6 [a1 2 3 2] (.r 7 [a1 1 0 0, (2, .call 63 (fun _ => [.agg #[.slice f l c]]) (fun _ => .int .i64 ((l : Int) / 8)))] (.split (decide ((fr : Int) ≥ ((l : Int) / 8))) (.r 8 [a1 1 3 0] (.r 9 [aN 1 3 0 5, aN 3 1 0 9, aN 4 2 0 5] (.fin [(1, 0, 9), (2, 0, 5)] (fun _ => .tuple #[hitV hit0, .agg #[.int .i64 1, .int .i64 st, .int .i64 lv, .bool false, .int .i64 pg], .slice fR R.length cR]) [(4, (fun _ => ownFx 3 1 fR R.length cR (icells R)))]))) (.r 10 [(3, .opc (.call ⟨.builtin .append, #[(.tmp 33), (.tmp 35)], #[25, 25]⟩) (fun E => [.slice fR R.length cR, .slice (some ⟨E.b 5, 0, none⟩) 1 1]) (fun E => .slice (E.f 6) (R ++ [fr]).length (E.b 6)) [(4, (fun _ => ownFx 3 1 fR R.length cR (icells R))), (5, (fun E => ⟨E.b 5, 0, 3, [.int .i64 fr], .own⟩))] [(4, fun _ => noBx)] 6 [fun E => OwnP 3 1 (E.f 6) (R ++ [fr]).length (E.b 6) (icells (R ++ [fr]))])] (.r 11 [a1 0 0 0, (5, .call 45 (fun _ => [.agg #[.slice f l c], .int .i64 st, .int .i64 lv, .int .i64 fr, .int .i64 pg]) (fun _ => dscV (tblD X st lv fr pg))), aN 7 7 0 9] (.r 12 [a1 1 7 0] (.split ((tblD X st lv fr pg).k == 1) (.r 13 [a1 1 7 1] (.r 5 [(1, .rw (fun _ => .int .i64 (IntKind.i64.wrap (lv + 1))) (fun _ => .int .i64 (lv + 1)))] (.out none (fun E => [(1, .int .i64 st), (2, .int .i64 (tblD X st lv fr pg).f), (3, .int .i64 pg), (4, .pointer (some ⟨b4, 0, none⟩)), (8, .pointer (some ⟨b8, 0, none⟩)), (9, .pointer (some ⟨b9, 0, none⟩)), (11, .slice (E.f 6) (R ++ [fr]).length (E.b 6)), (12, .pointer (some ⟨b12, 0, none⟩)), (13, .int .i64 (lv + 1))]) [(0, (fun _ => ⟨b4, 0, 24, [.slice f l c], .row⟩)), (1, (fun _ => ⟨b8, 0, 62, (hitC hit0), .own⟩)), (2, (fun _ => ⟨b9, 0, 44, (fltC flt0), .own⟩)), (3, (fun _ => ⟨b12, 0, 44, [.int .i64 0, .int .i64 st, .int .i64 lv, .bool false, .int .i64 pg], .own⟩)), (6, (fun E => ownFx 3 1 (E.f 6) (R ++ [fr]).length (E.b 6) (icells (R ++ [fr]))))]))) (.r 14 [a1 1 7 0] (.split ((tblD X st lv fr pg).k == 0) (.r 15 [a1 1 3 0] (.r 16 [aN 1 3 0 5, aN 3 1 0 9, aN 4 2 0 5] (.fin [(1, 0, 9), (2, 0, 5)] (fun E => .tuple #[hitV hit0, .agg #[.int .i64 2, .int .i64 st, .int .i64 lv, .bool false, .int .i64 pg], .slice (E.f 6) (R ++ [fr]).length (E.b 6)]) [(6, (fun E => ownFx 3 1 (E.f 6) (R ++ [fr]).length (E.b 6) (icells (R ++ [fr]))))]))) (.r 17 [a1 1 7 1, (4, .call 47 (fun _ => [.int .i64 lv]) (fun _ => .int .i64 (cov lv))), (5, .opc (.binOp .rem 3 (.tmp 57) (.tmp 59) 3) (fun _ => [.int .i64 pg, .int .i64 (cov lv)]) (fun _ => .int .i64 (pg % cov lv)) [] [] 0 []), (6, .rw (fun _ => .int .i64 (IntKind.i64.wrap ((tblD X st lv fr pg).f + (pg % cov lv)))) (fun _ => .int .i64 ((tblD X st lv fr pg).f + pg % cov lv)))] (.r 18 [a1 1 0 0, (2, .call 63 (fun _ => [.agg #[.slice f l c]]) (fun _ => .int .i64 ((l : Int) / 8)))] (.split (decide ((((tblD X st lv fr pg).f + pg % cov lv) : Int) ≥ ((l : Int) / 8))) (.r 19 [a1 1 3 0] (.r 20 [aN 1 3 0 5, aN 3 1 0 9, aN 4 2 0 5] (.fin [(1, 0, 9), (2, 0, 5)] (fun E => .tuple #[hitV hit0, .agg #[.int .i64 1, .int .i64 st, .int .i64 lv, .bool false, .int .i64 pg], .slice (E.f 6) (R ++ [fr]).length (E.b 6)]) [(6, (fun E => ownFx 3 1 (E.f 6) (R ++ [fr]).length (E.b 6) (icells (R ++ [fr]))))]))) (.r 21 [aN 2 7 2 6, aN 7 1 0 9, aN 8 2 0 5] (.fin [(1, 0, 9), (2, 0, 5)] (fun E => .tuple #[.agg #[.int .i64 ((tblD X st lv fr pg).f + pg % cov lv), .int .i64 0, .bool (tblD X st lv fr pg).r, .bool (tblD X st lv fr pg).w, .bool (tblD X st lv fr pg).x, .bool (tblD X st lv fr pg).a, .bool (tblD X st lv fr pg).n, .int .i64 (tblD X st lv fr pg).s, .int .i64 lv], fltV flt0, .slice (E.f 6) (R ++ [fr]).length (E.b 6)]) [(6, (fun E => ownFx 3 1 (E.f 6) (R ++ [fr]).length (E.b 6) (icells (R ++ [fr]))))]))))))))))))))) hT hF (⟨fun _ => congrArg Value.bool h4, fun _ W _ => rframesB f l c W (by have := okM_true hM; omega), fun hS1 => fun E W hk hp => by simp only [ge_iff_le, decide_eq_true_eq, decide_eq_false_iff_not, beq_iff_eq, beq_eq_false_iff_ne, ne_eq] at hS1; simp only [walkS, hS1, if_true, if_false] at hz; subst hz; exact ⟨fR, cR, rfl, own_base (hp.1 _ (List.mem_singleton.2 rfl)), hk.below⟩, fun hS1 => ⟨fun E W ρ o ho hx hk hp => pushN_opc ho hx hk hp.1 rfl (by omega), fun _ W hk => tblR_any f l c X st lv fr pg W (hX.keep0 hk) (by have := okM_true hM; omega) hpl p0 p1 f0 (by have := okM_true hM; have hN := hS1; simp only [ge_iff_le, decide_eq_false_iff_not] at hN; omega), fun hS2 => ⟨fun _ => by rw [hl9], fun E _ _ hT1 hF1 => ⟨⟨n - 1, (tblD X st lv fr pg).f, R ++ [fr], E.f 6, E.b 6, lv⟩, by simp only [ge_iff_le, decide_eq_true_eq, decide_eq_false_iff_not, beq_iff_eq, beq_eq_false_iff_ne, ne_eq] at hS1 hS2; simp only [walkS, hS1, hS2, if_true, if_false] at hz; have h3 := h13 hS2; refine ⟨by simp only; omega, hdf.1, hdf.2, by simp only [List.length_append, List.length_singleton]; omega, ?_, ?_, hF1⟩ <;> simp only [show (3 - ((n - 1 : Nat) : Int)) = lv + 1 by omega]; (rw [show n - 1 + 1 = n by omega]; exact hz); exact hT1, by have h3 := h13 (beq_iff_eq.1 hS2); simp only; omega⟩⟩, fun hS2 => ⟨fun hS3 => fun E W hk hp => by simp only [ge_iff_le, decide_eq_true_eq, decide_eq_false_iff_not, beq_iff_eq, beq_eq_false_iff_ne, ne_eq] at hS1 hS2 hS3; simp only [walkS, hS1, hS2, hS3, if_true, if_false] at hz; subst hz; exact ⟨E.f 6, E.b 6, rfl, own_base (hp.1 _ (List.mem_singleton.2 rfl)), hk.below⟩, fun hS3 => ⟨fun _ W _ => rcovers_any lv W l0 (by omega), fun _ W _ _ ho hx hk _ => by rw [← ht9]; exact rem_opc ho hx hk hc9, fun _ => by rw [hw9], fun _ W _ => rframesB f l c W (by have := okM_true hM; omega), fun hS4 => fun E W hk hp => by simp only [ge_iff_le, decide_eq_true_eq, decide_eq_false_iff_not, beq_iff_eq, beq_eq_false_iff_ne, ne_eq] at hS1 hS2 hS3 hS4; simp only [walkS, hS1, hS2, hS3, hS4, if_true, if_false] at hz; subst hz; exact ⟨E.f 6, E.b 6, rfl, own_base (hp.1 _ (List.mem_singleton.2 rfl)), hk.below⟩, fun hS4 => fun E W hk hp => by simp only [ge_iff_le, decide_eq_true_eq, decide_eq_false_iff_not, beq_iff_eq, beq_eq_false_iff_ne, ne_eq] at hS1 hS2 hS3 hS4; simp only [walkS, hS1, hS2, hS3, hS4, if_true, if_false] at hz; subst hz; exact ⟨E.f 6, E.b 6, rfl, own_base (hp.1 _ (List.mem_singleton.2 rfl)), hk.below⟩⟩⟩⟩⟩) (R := (WalkEnd w0 z)) (J := fun e a' w' => match e with | .normal => ∃ x' : WkrS, (x'.n ≤ 3 ∧ 0 ≤ x'.fr ∧ x'.fr ≤ 4095 ∧ (x'.R.length : Int) = 3 - x'.n ∧ walkS ((l : Int) / 8) (fun lv f => tblD X st lv f pg) st pg (x'.n + 1) (3 - x'.n) x'.fr x'.R = z ∧ Has Tryz.f71.ntmps [(1, .int .i64 st), (2, .int .i64 x'.fr), (3, .int .i64 pg), (4, .pointer (some ⟨b4, 0, none⟩)), (8, .pointer (some ⟨b8, 0, none⟩)), (9, .pointer (some ⟨b9, 0, none⟩)), (11, .slice x'.f x'.R.length x'.c), (12, .pointer (some ⟨b12, 0, none⟩)), (13, .int .i64 (3 - x'.n))] a' ∧ Fits [] w0 [⟨b4, 0, 24, [.slice f l c], .row⟩, ⟨b8, 0, 62, hitC hit0, .own⟩, ⟨b9, 0, 44, fltC flt0, .own⟩, ⟨b12, 0, 44, fltC ⟨0, st, x'.lq, false, pg⟩, .own⟩, ownFx 3 1 x'.f x'.R.length x'.c (icells x'.R)] w') ∧ x'.n < n | e => wpI Tryz.prog Q (restAt Tryz.f71 0) e a' w') (fun _ _ h => wpI_ret (hQr _ _ h)) (fun e _ _ h => by cases e <;> exact h) (fun _ => by kernel_rfl)
theorem walkR_any (f : Option Addr) (l c : Nat) (X : Nat → BitVec 64) (st fr pg : Int) (w : World) (hX : WordsAt w f l X) (hM : okM l = true) (hst : st = 1 ∨ st = 2) (p0 : 0 ≤ pg) (p1 : pg ≤ 4095) (f0 : 0 ≤ fr) (f1 : fr ≤ 4095) :
  Calls Tryz.prog 71 #[.agg #[.slice f l c], .int .i64 st, .int .i64 fr, .int .i64 pg] w (WalkEnd w (walkD l X st fr pg)) := by
 exact calls_ex mixedT [] (.r 2 [aN 4 3 0 5] (.lp (restAt Tryz.f71 0) (nthLoop Tryz.f71 0) (fun E => [(1, .int .i64 st), (2, .int .i64 fr), (3, .int .i64 pg), (4, .pointer (some ⟨E.b 0, 0, none⟩)), (8, .pointer (some ⟨E.b 1, 0, none⟩)), (9, .pointer (some ⟨E.b 2, 0, none⟩)), (11, .slice none 0 0), (12, .pointer (some ⟨E.b 3, 0, none⟩)), (13, .int .i64 0)]) [(0, (fun E => ⟨E.b 0, 0, 24, [.slice f l c], .own⟩)), (1, (fun E => ⟨E.b 1, 0, 62, (hitC hit0), .own⟩)), (2, (fun E => ⟨E.b 2, 0, 44, (fltC flt0), .own⟩)), (3, (fun E => ⟨E.b 3, 0, 44, [.int .i64 0, .int .i64 st, .int .i64 0, .bool false, .int .i64 pg], .own⟩))])) Tryz.func71 rfl (Fits.nil w) (fun E a W hT hF Q hQr _ => walkR_loop f l c st pg fr X (E.b 0) (E.b 1) (E.b 2) (E.b 3) rfl hX hM hst p0 p1 f0 f1 hT ((hF.roAt [true]).nilrow _ _) hQr) rfl (fun _ => by kernel_rfl)
end
end Go.Proofs.YtmelepohdbojlaaGreat
