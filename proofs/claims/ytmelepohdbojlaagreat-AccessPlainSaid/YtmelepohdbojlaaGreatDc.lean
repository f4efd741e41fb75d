/- The engine: an element of a row that is a fact: its place, its cells; a fit, seen from here. The engine: blocks that a callee makes and hands out by a pointer; blocks that a callee turns. Whether an entry may be, and the reference's answer: contracts. -/
import Derived.Test.YtmelepohdbojlaaGreatEb
import Derived.Deep.MidRow
import Derived.Test.YtmelepohdbojlaaGreatSq
import Derived.Test.YtmelepohdbojlaaGreatDb
set_option linter.all false
namespace Go.Proofs.YtmelepohdbojlaaGreat
section
open Go.ChangeShapes Go.WideShapes Go.ChangeAt Go.RowKit Go.Deep
def blkOf : Option Addr → Nat
 | some a => a.block
 | none => 0
theorem OwnP.at {e : TypeId} {size : Nat} {f : Option Addr} {n c : Nat} {xs : List Value} {W : World} (h : OwnP e size f n c xs W) (hn : 0 < n) : f = some ⟨blkOf f, 0, none⟩ ∧ ∀ j v, xs[j]? = some v → W.cell? ⟨blkOf f, j, none⟩ = some v := by
 rcases h.2 with ⟨_, h0⟩ | ⟨g, cap, cur, hv, _⟩
 ·omega
 ·injection hv with hf
  subst hf
  refine ⟨rfl, fun j v hj => ?_⟩
  have := h.cells (g := g) rfl j v hj
  rwa [add_none, Nat.zero_add] at this
theorem opc_same {P : Program} {ft : List Nat} {w0 W : World} {k : Nat} {v : Env → Value} {pre : BL} {E : Env} {ρ : Operand → Value} {o : Oper} (hk : Keep ft w0 W) (h : (execOp ρ o).run P W = .ok (.value (v E)) W) :
  ∃ x q w', (execOp ρ o).run P W = .ok (.value x) w' ∧ GPost ft w0 k v pre [] [] E W (.returned x) w' q :=
 ⟨v E, fun _ => (0, none), W, h, rfl, fun _ hp => (by cases hp), hk, Nat.le_refl _, fun _ _ _ => rfl, fun _ _ hp => (by simp at hp)⟩
theorem ix_opc {P : Program} {ft : List Nat} {w0 W : World} {k n N : Nat} {j : Int} {c : Nat} {f : Option Addr} {v : Env → Value} {pre : BL} {E : Env} {ρ : Operand → Value} {o : Oper} {t e : TypeId} {s i : Operand} {xs : List Value} {size : Nat} (ho : o.op = .indexAddr t s i) (hx : [ρ s, ρ i] = [.slice f n c, .int .i64 j]) (hk : Keep ft w0 W)
  (hu : P.underlying t = some (.slice e)) (hi : (P.info? e).map (·.size) = some N) (hP : OwnP e size f n c xs W) (h0 : 0 ≤ j) (h1 : j < n) (hv : v E = .pointer (some ⟨blkOf f, j.toNat * N, none⟩)) :
  ∃ x q w', (execOp ρ o).run P W = .ok (.value x) w' ∧ GPost ft w0 k v pre [] [] E W (.returned x) w' q := by
 refine opc_same hk ?_
 rw [hv]
 simp only [List.cons.injEq, and_true] at hx
 obtain ⟨hf, _⟩ := hP.at (by omega)
 have he : P.elem t = e := by simp [Program.elem, hu]
 have hsz : (sizeOf (P.elem t)).run P W = .ok N W := by
  rw [he]
  cases hq : P.info? e with
  | none => simp [hq] at hi
  | some i =>
   have : i.size = N := by simpa [hq] using hi
   simp [sizeOf, typeInfo, hq, this]
 have hr : (Instr.indexAt t (.slice f n c) (.int .i64 j)).run P W = .ok (.pointer (some ⟨blkOf f, j.toNat * N, none⟩)) W := by
  rw [hf]
  simp only [run_indexAt_slice W t _ _ _ _ _ (by rw [he]; exact hu)]
  rw [if_pos ⟨h0, h1⟩, hsz]
  simp [Addr.add, blkOf]
  exact fun h => h.symm
 unfold execOp
 simp only [ho, hx.1, hx.2, Sem.run_bind, hr, Result.andThen_ok, Sem.run_pure]
theorem ld_opc {P : Program} {ft : List Nat} {w0 W : World} {k n c d' : Nat} {f : Option Addr} {pre : BL} {E : Env} {ρ : Operand → Value} {o : Oper} {t e : TypeId} {p : Operand} {xs : List Value} {size : Nat} {d : TypeDesc} {v : Value} (ho : o.op = .load t p) (hx : [ρ p] = [.pointer (some ⟨blkOf f, c, none⟩)]) (hk : Keep ft w0 W)
  (hu : P.underlying t = some d) (hd : d.isRow = false) (hP : OwnP e size f n d' xs W) (hn : 0 < n) (hv : xs[c]? = some v) :
  ∃ x q w', (execOp ρ o).run P W = .ok (.value x) w' ∧ GPost ft w0 k (fun _ => v) pre [] [] E W (.returned x) w' q := by
 refine opc_same hk ?_
 simp only [List.cons.injEq, and_true] at hx
 have hc := (hP.at hn).2 c v hv
 have hagg : (isAgg t).run P W = .ok false W := by
  unfold isAgg
  rw [Sem.run_bind, run_underlying hu W]
  cases d <;> simp_all
 unfold execOp
 simp [ho, hx, Instr.loadAt, Instr.sureAddr, loadVar, hagg, hc]
theorem ldN_opc {P : Program} {ft : List Nat} {w0 W : World} {k n c d' : Nat} {f : Option Addr} {pre : BL} {E : Env} {ρ : Operand → Value} {o : Oper} {t e : TypeId} {p : Operand} {xs cs : List Value} {size : Nat} {d : TypeDesc} (ho : o.op = .load t p) (hx : [ρ p] = [.pointer (some ⟨blkOf f, c, none⟩)]) (hk : Keep ft w0 W)
  (hu : P.underlying t = some d) (hd : d.isRow = true) (hi : (P.info? t).map (·.size) = some cs.length) (hP : OwnP e size f n d' xs W) (hn : 0 < n) (hv : ∀ j u, cs[j]? = some u → xs[c + j]? = some u) :
  ∃ x q w', (execOp ρ o).run P W = .ok (.value x) w' ∧ GPost ft w0 k (fun _ => .agg cs.toArray) pre [] [] E W (.returned x) w' q := by
 refine opc_same hk ?_
 simp only [List.cons.injEq, and_true] at hx
 have hr := run_loadVar_mid (P := P) W (blkOf f) c t cs d (fun j u hj => (hP.at hn).2 (c + j) u (hv j u hj)) hu hd hi
 unfold execOp
 simp only [ho, hx, Instr.loadAt, Instr.sureAddr, Sem.run_bind, Sem.run_pure, Result.andThen_ok, hr]
theorem Fits.self {ft ft' : List Nat} {w0 W : World} {h : List Bx} (H : Fits ft w0 h W) (hf : ∀ (i : Nat) (x : Bx), h[i]? = some x → ∀ b, x.fp = some b → b ∈ ft') : Fits ft' W h W := by
 refine ⟨Keep.refl _ _, fun i x hi => ?_, H.ne⟩
 have hx := H.all i x hi
 have hfx := hf i x hi
 obtain ⟨b, o, t, cs, k⟩ := x
 cases k with
 | no => exact hx
 | row => exact hx
 | own => exact ⟨hx.1, Or.inl (hfx b rfl), hx.2.2⟩
 | fact q p => exact ⟨hx.1, fun b' hb => ⟨Or.inl (hfx b' hb), (hx.2.1 b' hb).2⟩, hx.2.2⟩
end
section
open Go.ChangeShapes Go.WideShapes Go.ChangeAt Go.RowKit Go.Deep
def OwnB (t : TypeId) (cs : List Value) (f : Option Addr) (b : Nat) (W : World) : Prop := f.map (·.block) = some b ∧ W.heap[b]? = some (.cells cs.toArray t)
theorem OwnB.local (t : TypeId) (cs : List Value) (f : Option Addr) (b : Nat) : Local (f.map (·.block)) (OwnB t cs f b) := by
 intro w w' h hb _
 exact ⟨h.1, (hb b h.1).trans h.2⟩
def BoxEnd (t : TypeId) (cs : List Value) (w : World) (e : Ending) (w' : World) : Prop :=
 ∃ b, e = .returned (.pointer (some ⟨b, 0, none⟩)) ∧ w.heap.size ≤ b ∧ w'.heap[b]? = some (.cells cs.toArray t) ∧ Below w.heap.size w w'
theorem BoxEnd.post {t : TypeId} {cs : List Value} {ft : List Nat} {w0 W w' : World} {k : Nat} {pre : BL} {E : Env} {e : Ending} (h : BoxEnd t cs W e w') (hk : Keep ft w0 W) :
  ∃ q, GPost ft w0 k (fun E => .pointer (some ⟨E.b k, 0, none⟩)) pre [] [fun E => OwnB t cs (E.f k) (E.b k)] E W e w' q := by
 obtain ⟨b, he, hs, hb, hw⟩ := h
 refine GPost.made (fun _ => (b, some ⟨b, 0, none⟩)) hk hw ?_ fun j p hj => ?_
 ·show e = .returned (.pointer (some ⟨(E.set k (b, some ⟨b, 0, none⟩)).b k, 0, none⟩))
  rw [set_c]
  exact he
 ·obtain ⟨rfl, rfl⟩ : 0 = j ∧ _ = p := by
   cases j with
   | zero => exact ⟨rfl, Option.some.inj hj⟩
   | succ j => simp at hj
  have e1 : OwnB t cs ((E.set k (b, some ⟨b, 0, none⟩)).f k) ((E.set k (b, some ⟨b, 0, none⟩)).b k) = OwnB t cs (some ⟨b, 0, none⟩) b := by rw [set_f, set_c]
  refine ⟨(congrFun e1 w').mpr ⟨rfl, hb⟩, (congrArg (Local (some b)) e1).mpr (OwnB.local t cs (some ⟨b, 0, none⟩) b), fun c hc => ?_⟩
  obtain rfl := Option.some.inj hc
  exact ⟨(Array.getElem?_eq_some_iff.1 hb).1, hs, fun j' h1 h2 => by simp at h1; omega⟩
theorem Fits.box {W : World} {b : Nat} {t : TypeId} {cs : List Value} (h : W.heap[b]? = some (.cells cs.toArray t)) : Fits [b] W [⟨b, 0, t, cs, .own⟩] W := by
 refine ⟨Keep.refl _ _, fun i x hi => ?_, fun i j x y hi hj hij => ?_⟩
 ·cases i with
  | zero =>
   obtain rfl : (⟨b, 0, t, cs, .own⟩ : Bx) = x := by simpa using hi
   exact ⟨rfl, Or.inl (List.mem_singleton.2 rfl), h⟩
  | succ i => simp at hi
 ·cases i with
  | zero =>
   cases j with
   | zero => exact absurd rfl hij
   | succ j => simp at hj
  | succ i => simp at hi
theorem Fits.boxR {W : World} {b : Nat} {t : TypeId} {cs : List Value} (h : W.heap[b]? = some (.cells cs.toArray t)) : Fits [] W [⟨b, 0, t, cs, .row⟩] W := by
 have := (Fits.box h).ro
 exact this
theorem Fits.row {ft : List Nat} {w0 w : World} {h : List Bx} {b o : Nat} {t : TypeId} {cs : List Value} (H : Fits ft w0 h w) (hlt : b < w.heap.size) (hc : ∀ (j : Nat) (v : Value), cs[j]? = some v → w.cell? ⟨b, o + j, none⟩ = some v) (hn : ∀ (i : Nat) (x : Bx), h[i]? = some x → x.fp ≠ some b) :
  Fits ft w0 (h ++ [⟨b, o, t, cs, .row⟩]) w := by
 have key : ∀ {i : Nat} {x : Bx}, (h ++ [⟨b, o, t, cs, .row⟩])[i]? = some x → h[i]? = some x ∨ (i = h.length ∧ x = ⟨b, o, t, cs, .row⟩) := fun {i x} hi => by
  rw [List.getElem?_append] at hi
  split at hi
  ·exact Or.inl hi
  ·rename_i hl
   have hi' : i - h.length = 0 := by
    have := (List.getElem?_eq_some_iff.1 hi).1
    simpa using this
   rw [hi'] at hi
   exact Or.inr ⟨by omega, by simpa using hi.symm⟩
 refine ⟨H.keep, fun i x hi => ?_, fun i j x y hi hj hij c hx hy => ?_⟩
 ·rcases key hi with h | ⟨_, rfl⟩
  ·exact H.all i x h
  ·exact ⟨hlt, hc⟩
 ·rcases key hi with h1 | ⟨_, rfl⟩
  ·rcases key hj with h2 | ⟨_, rfl⟩
   ·exact H.ne i j x y h1 h2 hij c hx hy
   ·exact hn i x h1 (hx.trans hy.symm)
  ·cases hx
theorem GPost.box1 {ft : List Nat} {w0 W w' : World} {k i b : Nat} {t : TypeId} {cs : List Value} {v : Env → Value} {rest : BL} {x0 x1 : Env → Bx} {E : Env} {e : Ending} (hk : Keep ft w0 W) (hp : ∀ p ∈ (i, x0) :: rest, (p.2 E).Holds ft w0 W) (h0 : (x0 E).fp = some b) (h1 : x1 E = ⟨b, 0, t, cs, .own⟩) (hr : ∀ p ∈ rest, p.1 ≠ i)
  (he : e = .returned (v E)) (hF : Fits [b] W [⟨b, 0, t, cs, .own⟩] w') : ∃ q, GPost ft w0 k v ((i, x0) :: rest) [(i, x1)] [] E W e w' q := by
 refine GPost.fin (ft := [b]) (fun _ => (0, none)) hk hp (fun c hc => ?_) (fun p hp' p' hp'' hpe => ?_) he ?_
 ·obtain rfl := List.mem_singleton.1 hc
  exact ⟨_, List.mem_cons_self .., h0, by simp⟩
 ·obtain rfl := List.mem_singleton.1 hp''
  rcases List.mem_cons.1 hp' with rfl | hp'
  ·refine Or.inr ?_
   show (x1 E).fp = (x0 E).fp
   rw [h1, h0]
   rfl
  ·exact absurd hpe.symm (hr p hp')
 ·show Fits [b] W [x1 E] w'
  rw [h1]
  exact hF
theorem CPost.box1 {n : Nat} {ft : List Nat} {w0 W w' : World} {k i b : Nat} {t : TypeId} {cs : List Value} {T' : Env → Sl} {rest : BL} {x0 x1 : Env → Bx} {E : Env} {a' : Act} (hk : Keep ft w0 W) (hp : ∀ p ∈ (i, x0) :: rest, (p.2 E).Holds ft w0 W) (h0 : (x0 E).fp = some b) (h1 : x1 E = ⟨b, 0, t, cs, .own⟩) (hr : ∀ p ∈ rest, p.1 ≠ i)
  (hT : Has n (T' E) a') (hF : Fits [b] W [⟨b, 0, t, cs, .own⟩] w') : ∃ q, CPost n ft w0 k ((i, x0) :: rest) T' [(i, x1)] [] E W a' w' q := by
 obtain ⟨q, hq⟩ := GPost.box1 (k := k) (v := fun _ => undef) (e := .returned undef) hk hp h0 h1 hr rfl hF
 exact ⟨q, hT, hq⟩
theorem Fits.holds {ft : List Nat} {w0 W : World} {pre : BL} {E : Env} (H : Fits ft w0 (pre.map fun p => p.2 E) W) : ∀ p ∈ pre, (p.2 E).Holds ft w0 W := fun p hp => by
 obtain ⟨i, hi⟩ := List.getElem?_of_mem hp
 exact H.all i _ (by rw [List.getElem?_map, hi]; rfl)
theorem opc_two {op : BinOp} {t ty : TypeId} {x y : Operand} {cs ds : Array Value} {r : Bool} {ft : List Nat} {w0 W : World} {k : Nat} {pre : BL} {E : Env} {ρ : Operand → Value} {o : Oper} (ho : o.op = .binOp op t x y ty) (hx : [ρ x, ρ y] = [.agg cs, .agg ds]) (hk : Keep ft w0 W)
  (hg : (eqGuard op t x y (.agg cs) (.agg ds)).run Tryz.prog W = .ok () W) (h : (binOp op t (.agg cs) (.agg ds)).run Tryz.prog W = .ok (.bool r) W) : ∃ x' q w', (execOp ρ o).run Tryz.prog W = .ok (.value x') w' ∧ GPost ft w0 k (fun _ => .bool r) pre [] [] E W (.returned x') w' q :=
 opc_bin ho hx hk (by rw [Sem.run_bind, hg]; exact h) rfl
end
section
open Go.ChangeShapes Go.WideShapes Go.ChangeAt Go.RowKit Go.Deep
theorem emayBe_any (st lv : Int) (k f : Int) (r wr x a n : Bool) (s o : Int) (w : World) :
  Calls Tryz.prog 173 #[.agg #[.int .i64 st, .int .i64 lv, .int .i64 k, .int .i64 f, .bool r, .bool wr, .bool x, .bool a, .bool n, .int .i64 s, .int .i64 o]] w fun e w' => e = .returned (.bool (mayE st lv (Dsc.mk k f r wr x a n s o))) ∧ Below w.heap.size w w' := by
 have hm : mayE st lv (Dsc.mk k f r wr x a n s o) = (placeB st lv && mayD st lv (Dsc.mk k f r wr x a n s o)) := rfl
 have HM := Lib.hid hm
 have HS := Lib.hid (fun W => spot_mayBe st lv W)
 clear hm
 cases hp : placeB st lv
 ·rw [hp] at HS HM
  clear hp
  go_enter Tryz.func173, Tryz.ntmps173
  go_wp2_with (go_at_call 171; refine (HS.out _).mono ?_; rintro e w' ⟨rfl, rfl⟩)
  go_ret
  rw [HM.out]
  exact ⟨rfl, by go_grown⟩
 ·obtain ⟨_, hl0, hl3⟩ := placeB_iff.1 hp
  rw [hp, Bool.true_and] at HM
  rw [hp] at HS
  clear hp
  by_cases k0 : k = 0
  ·subst k0
   have HN := Lib.hid (fun W => none_any st lv 0 f r wr x a n s o W rfl)
   have he : mayD st lv (Dsc.mk 0 f r wr x a n s o) = noneD st (Dsc.mk 0 f r wr x a n s o) := rfl
   rw [he] at HM
   clear he
   go_enter Tryz.func173, Tryz.ntmps173
   go_wp2_with (first | (go_at_call 171; refine (HS.out _).mono ?_; rintro e w' ⟨rfl, rfl⟩) | (go_at_call 185; refine (HN.out _).mono ?_; rintro e w' ⟨rfl, hb1⟩))
   go_ret
   rw [HM.out]
   exact ⟨rfl, bel_trans (by go_grown) hb1⟩
  ·have t0 : (k == 0) = false := by simpa using k0
   by_cases k1 : k = 1
   ·subst k1
    have HN := Lib.hid (fun W => table_any st lv 1 f r wr x a n s o W rfl)
    have he : mayD st lv (Dsc.mk 1 f r wr x a n s o) = tableD lv (Dsc.mk 1 f r wr x a n s o) := rfl
    rw [he] at HM
    clear he
    go_enter Tryz.func173, Tryz.ntmps173
    go_wp2_with (first | (go_at_call 171; refine (HS.out _).mono ?_; rintro e w' ⟨rfl, rfl⟩) | (go_at_call 186; refine (HN.out _).mono ?_; rintro e w' ⟨rfl, hb1⟩))
    go_ret
    rw [HM.out]
    exact ⟨rfl, bel_trans (by go_grown) hb1⟩
   ·have t1 : (k == 1) = false := by simpa using k1
    by_cases k2 : k = 2
    ·subst k2
     have HN := Lib.hid (fun W => leaf_any st lv 2 f r wr x a n s o W hl0 hl3)
     have he : mayD st lv (Dsc.mk 2 f r wr x a n s o) = leafD st lv (Dsc.mk 2 f r wr x a n s o) := rfl
     rw [he] at HM
     clear he
     go_enter Tryz.func173, Tryz.ntmps173
     go_wp2_with (first | (go_at_call 171; refine (HS.out _).mono ?_; rintro e w' ⟨rfl, rfl⟩) | (go_at_call 187; refine (HN.out _).mono ?_; rintro e w' ⟨rfl, hb1⟩))
     go_ret
     rw [HM.out]
     exact ⟨rfl, bel_trans (by go_grown) hb1⟩
    ·have t2 : (k == 2) = false := by simpa using k2
     have he : mayD st lv (Dsc.mk k f r wr x a n s o) = false := by simp [mayD, k0, k1, k2]
     rw [he] at HM
     clear he k0 k1 k2
     go_enter Tryz.func173, Tryz.ntmps173
     go_wp2_with (go_at_call 171; refine (HS.out _).mono ?_; rintro e w' ⟨rfl, rfl⟩)
     go_ret
     rw [HM.out]
     exact ⟨rfl, by go_grown⟩
theorem remD_opc {ft : List Nat} {w0 W : World} {k : Nat} {pre : BL} {E : Env} {ρ : Operand → Value} {o : Oper} {x y : Operand} {a b : Int} (ho : o.op = .binOp .rem 3 x y 3) (hx : [ρ x, ρ y] = [.int .i64 a, .int .i64 b]) (hk : Keep ft w0 W) (hb : b ≠ 0) :
  ∃ x' q w', (execOp ρ o).run Tryz.prog W = .ok (.value x') w' ∧ GPost ft w0 k (fun _ => .int .i64 (Int.tmod a b)) pre [] [] E W (.returned x') w' q := by
 refine opc_bin ho hx hk ?_ rfl
 go_simp
theorem rdesc_any (st lv : Int) (k f : Int) (r wr x a n : Bool) (s o : Int) (w : World) (hp : placeB st lv = true) :
  Calls Tryz.prog 95 #[.int .i64 st, .int .i64 lv, .agg #[.int .i64 k, .int .i64 f, .bool r, .bool wr, .bool x, .bool a, .bool n, .int .i64 s, .int .i64 o]] w fun e w' => e = .returned (.bool (mayD st lv (Dsc.mk k f r wr x a n s o))) ∧ Below w.heap.size w w' := by
 obtain ⟨hst, hl0, hl3⟩ := placeB_iff.1 hp
 have hc9 : cov lv ≠ 0 := by have := cov_pos lv; omega
 have hNone : (k == 0) = true → ((eqD (Dsc.mk k f r wr x a n s o) (Dsc.mk 0 0 false false false false false 0 o) && numB o 15) && ((st == 2) || (o == 0))) = mayD st lv (Dsc.mk k f r wr x a n s o) := fun h => by
  obtain rfl := beq_iff_eq.1 h
  unfold mayD noneD
  simp only [if_true]
  by_cases h0 : o = 0
  ·subst h0
   cases eqD (Dsc.mk 0 f r wr x a n s 0) (Dsc.mk 0 0 false false false false false 0 0) <;> simp [numB]
  ·cases eqD (Dsc.mk 0 f r wr x a n s o) (Dsc.mk 0 0 false false false false false 0 o) <;> cases numB o 15 <;> simp [h0]
   rw [beq_int st 2, beq_int o 0, decide_eq_false h0, Bool.or_false]
 have hTable : (k == 0) = false → (k == 1) = true → ((decide (lv < 3) && eqD (Dsc.mk k f r wr x a n s o) (Dsc.mk 1 f false false false false false 0 0)) && numB f 4095) = mayD st lv (Dsc.mk k f r wr x a n s o) := fun _ h => by
  obtain rfl := beq_iff_eq.1 h
  unfold mayD tableD
  rw [show decide (lv < 3) = decide (lv ≠ 3) from decide_eq_decide.2 (by omega)]
  cases decide (lv ≠ 3) <;> cases eqD (Dsc.mk 1 f r wr x a n s o) (Dsc.mk 1 f false false false false false 0 0) <;> simp
 have hLeaf : (k == 0) = false → (k == 1) = false → (k == 2) = true → ((((decide (lv > 0) && numB f 4095) && (Int.tmod f (cov lv) == 0)) && (o == 0)) && ((((st == 2) && (!n)) && numB s 15) || (((st == 1) && r) && (s == 0)))) = mayD st lv (Dsc.mk k f r wr x a n s o) := fun _ _ h => by
  obtain rfl := beq_iff_eq.1 h
  unfold mayD leafD attrD
  rw [show decide (lv > 0) = decide (lv ≠ 0) from decide_eq_decide.2 (by omega), ← beq_int (Int.tmod f (cov lv)) 0, ← beq_int o 0, ← beq_int s 0]
  rcases hst with rfl | rfl <;> cases decide (lv ≠ 0) <;> cases numB f 4095 <;> cases (Int.tmod f (cov lv) == 0) <;> cases (o == 0) <;> cases n <;> cases r <;> cases numB s 15 <;> cases (s == 0) <;> rfl
 have hOther : (k == 0) = false → (k == 1) = false → (k == 2) = false → false = mayD st lv (Dsc.mk k f r wr x a n s o) := fun h0 h1 h2 => by
  simp only [beq_eq_false_iff_ne, ne_eq] at h0 h1 h2
  unfold mayD
  simp only [h0, h1, h2, if_false]
 obtain ⟨q0, hq0⟩ : ∃ b, (k == 0) = b := ⟨_, rfl⟩
 obtain ⟨q1, hq1⟩ : ∃ b, (eqD (Dsc.mk k f r wr x a n s o) (Dsc.mk 0 0 false false false false false 0 o)) = b := ⟨_, rfl⟩
 obtain ⟨q2, hq2⟩ : ∃ b, (numB o 15) = b := ⟨_, rfl⟩
 obtain ⟨q3, hq3⟩ : ∃ b, (st == 2) = b := ⟨_, rfl⟩
 obtain ⟨q4, hq4⟩ : ∃ b, (o == 0) = b := ⟨_, rfl⟩
 obtain ⟨q5, hq5⟩ : ∃ b, (k == 1) = b := ⟨_, rfl⟩
 obtain ⟨q6, hq6⟩ : ∃ b, (decide ((lv : Int) < 3)) = b := ⟨_, rfl⟩
 obtain ⟨q7, hq7⟩ : ∃ b, (eqD (Dsc.mk k f r wr x a n s o) (Dsc.mk 1 f false false false false false 0 0)) = b := ⟨_, rfl⟩
 obtain ⟨q8, hq8⟩ : ∃ b, (numB f 4095) = b := ⟨_, rfl⟩
 obtain ⟨q9, hq9⟩ : ∃ b, (k == 2) = b := ⟨_, rfl⟩
 obtain ⟨q10, hq10⟩ : ∃ b, (decide ((lv : Int) > 0)) = b := ⟨_, rfl⟩
 obtain ⟨q11, hq11⟩ : ∃ b, ((Int.tmod f (cov lv)) == 0) = b := ⟨_, rfl⟩
 obtain ⟨q12, hq12⟩ : ∃ b, (numB s 15) = b := ⟨_, rfl⟩
 obtain ⟨q13, hq13⟩ : ∃ b, (st == 1) = b := ⟨_, rfl⟩
 obtain ⟨q14, hq14⟩ : ∃ b, (s == 0) = b := ⟨_, rfl⟩
 exact calls_ex mixedT [] (.r 1 [a1 1 0 0] (.r 2 [(0, .rw (fun _ => .bool (k == 0)) (fun _ => .bool q0))] (.split (q0) (.r 3 [aN 0 0 0 9, a1 2 0 8, (4, .opc (.binOp .eql 101 (.tmp 12) (.tmp 15) 101) (fun _ => [.agg #[.int .i64 k, .int .i64 f, .bool r, .bool wr, .bool x, .bool a, .bool n, .int .i64 s, .int .i64 o], .agg #[.int .i64 0, .int .i64 0, .bool false, .bool false, .bool false, .bool false, .bool false, .int .i64 0, .int .i64 o]]) (fun _ => .bool q1) [] [] 0 []), a1 7 0 8, (8, .call 62 (fun _ => [.int .i64 o, .int .i64 15]) (fun _ => .bool q2)), (12, .rw (fun _ => .bool (st == 2)) (fun _ => .bool q3)), a1 15 0 8, (16, .rw (fun _ => .bool (o == 0)) (fun _ => .bool q4))] (.fin [] (fun _ => .bool ((q1 && q2) && (q3 || q4))) [])) (.r 4 [(0, .rw (fun _ => .bool (k == 1)) (fun _ => .bool q5))] (.split (q5) (.r 5 [(1, .rw (fun _ => .bool (decide ((lv : Int) < 3))) (fun _ => .bool q6)), aN 3 0 0 9, a1 5 0 1, (7, .opc (.binOp .eql 101 (.tmp 36) (.tmp 39) 101) (fun _ => [.agg #[.int .i64 k, .int .i64 f, .bool r, .bool wr, .bool x, .bool a, .bool n, .int .i64 s, .int .i64 o], .agg #[.int .i64 1, .int .i64 f, .bool false, .bool false, .bool false, .bool false, .bool false, .int .i64 0, .int .i64 0]]) (fun _ => .bool q7) [] [] 0 []), a1 11 0 1, (12, .call 32 (fun _ => [.int .i64 f]) (fun _ => .bool q8))] (.fin [] (fun _ => .bool ((q6 && q7) && q8)) [])) (.r 6 [(0, .rw (fun _ => .bool (k == 2)) (fun _ => .bool q9))] (.split (q9) (.r 7 [aN 1 0 2 6, aN 3 1 0 6] (.r 8 [(1, .rw (fun _ => .bool (decide ((lv : Int) > 0))) (fun _ => .bool q10)), a1 4 0 1, (5, .call 32 (fun _ => [.int .i64 f]) (fun _ => .bool q8)), a1 9 0 1, (11, .call 47 (fun _ => [.int .i64 lv]) (fun _ => .int .i64 (cov lv))), (12, .opc (.binOp .rem 3 (.tmp 60) (.tmp 62) 3) (fun _ => [.int .i64 f, .int .i64 (cov lv)]) (fun _ => .int .i64 (Int.tmod f (cov lv))) [] [] 0 []), (13, .rw (fun _ => .bool ((Int.tmod f (cov lv)) == 0)) (fun _ => .bool q11)), a1 17 0 8, (18, .rw (fun _ => .bool (o == 0)) (fun _ => .bool q4)), (22, .rw (fun _ => .bool (st == 2)) (fun _ => .bool q3)), a1 25 1 4, a1 30 1 5, (31, .call 62 (fun _ => [.int .i64 s, .int .i64 15]) (fun _ => .bool q12)), (35, .rw (fun _ => .bool (st == 1)) (fun _ => .bool q13)), a1 38 1 0, a1 42 1 5, (43, .rw (fun _ => .bool (s == 0)) (fun _ => .bool q14))] (.fin [] (fun _ => .bool ((((q10 && q8) && q11) && q4) && (((q3 && (!n)) && q12) || ((q13 && r) && q14)))) []))) (.fin [] (fun _ => .bool false) [])))))))) Tryz.func95 rfl (Fits.nil w) (⟨fun _ => congrArg Value.bool hq0, fun hS4 => ⟨fun E W ρ o ho hx hk hp => by rw [← hq1]; exact (fun _ W _ _ ho hx hk _ => opc_two ho hx hk (by kernel_rfl) (eql_desc _ _ _ _ _ _ _ _ _ _ _ _ _ _ _ _ _ _ W)) E W ρ o ho hx hk hp, fun _ W _ => (below_same (num_any o 15 W)).mono fun _ _ hJ => ⟨hJ.1.trans (by rw [hq2]), hJ.2⟩, fun _ => congrArg Value.bool hq3, fun _ => congrArg Value.bool hq4, fun _ _ h _ => ⟨ret_bool (by subst hq0 hq1 hq2 hq3 hq4 hq5 hq6 hq7 hq8 hq9 hq10 hq11 hq12 hq13 hq14; exact hNone hS4), h.below⟩⟩, fun hS4 => ⟨fun _ => congrArg Value.bool hq5, fun hS5 => ⟨fun _ => congrArg Value.bool hq6, fun E W ρ o ho hx hk hp => by rw [← hq7]; exact (fun _ W _ _ ho hx hk _ => opc_two ho hx hk (by kernel_rfl) (eql_desc _ _ _ _ _ _ _ _ _ _ _ _ _ _ _ _ _ _ W)) E W ρ o ho hx hk hp, fun _ W _ => (below_same (page_any f W)).mono fun _ _ hJ => ⟨hJ.1.trans (by rw [hq8]), hJ.2⟩, fun _ _ h _ => ⟨ret_bool (by subst hq0 hq1 hq2 hq3 hq4 hq5 hq6 hq7 hq8 hq9 hq10 hq11 hq12 hq13 hq14; exact hTable hS4 hS5), h.below⟩⟩, fun hS5 => ⟨fun _ => congrArg Value.bool hq9, fun hS6 => ⟨fun _ => congrArg Value.bool hq10, fun _ W _ => (below_same (page_any f W)).mono fun _ _ hJ => ⟨hJ.1.trans (by rw [hq8]), hJ.2⟩, fun _ W _ => rcovers_any lv W hl0 hl3, fun _ W _ _ ho hx hk _ => remD_opc ho hx hk hc9, fun _ => congrArg Value.bool hq11, fun _ => congrArg Value.bool hq4, fun _ => congrArg Value.bool hq3, fun _ W _ => (below_same (num_any s 15 W)).mono fun _ _ hJ => ⟨hJ.1.trans (by rw [hq12]), hJ.2⟩, fun _ => congrArg Value.bool hq13, fun _ => congrArg Value.bool hq14, fun _ _ h _ => ⟨ret_bool (by subst hq0 hq1 hq2 hq3 hq4 hq5 hq6 hq7 hq8 hq9 hq10 hq11 hq12 hq13 hq14; exact hLeaf hS4 hS5 hS6), h.below⟩⟩, fun hS6 => fun _ _ h _ => ⟨ret_bool (by subst hq0 hq1 hq2 hq3 hq4 hq5 hq6 hq7 hq8 hq9 hq10 hq11 hq12 hq13 hq14; exact hOther hS4 hS5 hS6), h.below⟩⟩⟩⟩) rfl (fun _ => by cases q1; (cases q6; (cases q10; (kernel_rfl); (cases q8; (kernel_rfl); (cases q11; (kernel_rfl); (cases q4; (kernel_rfl); (cases q3; (cases q13; (kernel_rfl); (cases r <;> kernel_rfl)); (cases n; (cases q12; (cases q13; (kernel_rfl); (cases r <;> kernel_rfl)); (kernel_rfl)); (cases q13; (kernel_rfl); (cases r <;> kernel_rfl)))))))); (cases q7; (cases q10; (kernel_rfl); (cases q8; (kernel_rfl); (cases q11; (kernel_rfl); (cases q4; (kernel_rfl); (cases q3; (cases q13; (kernel_rfl); (cases r <;> kernel_rfl)); (cases n; (cases q12; (cases q13; (kernel_rfl); (cases r <;> kernel_rfl)); (kernel_rfl)); (cases q13; (kernel_rfl); (cases r <;> kernel_rfl)))))))); (cases q10; (kernel_rfl); (cases q8; (kernel_rfl); (cases q11; (kernel_rfl); (cases q4; (kernel_rfl); (cases q3; (cases q13; (kernel_rfl); (cases r <;> kernel_rfl)); (cases n; (cases q12; (cases q13; (kernel_rfl); (cases r <;> kernel_rfl)); (kernel_rfl)); (cases q13; (kernel_rfl); (cases r <;> kernel_rfl)))))))))); (cases q2; (cases q6; (cases q10; (kernel_rfl); (cases q8; (kernel_rfl); (cases q11; (kernel_rfl); (cases q4; (kernel_rfl); (cases q3; (cases q13; (kernel_rfl); (cases r <;> kernel_rfl)); (cases n; (cases q12; (cases q13; (kernel_rfl); (cases r <;> kernel_rfl)); (kernel_rfl)); (cases q13; (kernel_rfl); (cases r <;> kernel_rfl)))))))); (cases q7; (cases q10; (kernel_rfl); (cases q8; (kernel_rfl); (cases q11; (kernel_rfl); (cases q4; (kernel_rfl); (cases q3; (cases q13; (kernel_rfl); (cases r <;> kernel_rfl)); (cases n; (cases q12; (cases q13; (kernel_rfl); (cases r <;> kernel_rfl)); (kernel_rfl)); (cases q13; (kernel_rfl); (cases r <;> kernel_rfl)))))))); (cases q10; (kernel_rfl); (cases q8; (kernel_rfl); (cases q11; (kernel_rfl); (cases q4; (kernel_rfl); (cases q3; (cases q13; (kernel_rfl); (cases r <;> kernel_rfl)); (cases n; (cases q12; (cases q13; (kernel_rfl); (cases r <;> kernel_rfl)); (kernel_rfl)); (cases q13; (kernel_rfl); (cases r <;> kernel_rfl)))))))))); (cases q3; (cases q6; (cases q10; (kernel_rfl); (cases q8; (kernel_rfl); (cases q11; (kernel_rfl); (cases q4; (kernel_rfl); (cases q13; (kernel_rfl); (cases r <;> kernel_rfl)))))); (cases q7; (cases q10; (kernel_rfl); (cases q8; (kernel_rfl); (cases q11; (kernel_rfl); (cases q4; (kernel_rfl); (cases q13; (kernel_rfl); (cases r <;> kernel_rfl)))))); (cases q10; (kernel_rfl); (cases q8; (kernel_rfl); (cases q11; (kernel_rfl); (cases q4; (kernel_rfl); (cases q13; (kernel_rfl); (cases r <;> kernel_rfl)))))))); (cases q6; (cases q10; (kernel_rfl); (cases q8; (kernel_rfl); (cases q11; (kernel_rfl); (cases q4; (kernel_rfl); (cases n; (cases q12; (cases q13; (kernel_rfl); (cases r <;> kernel_rfl)); (kernel_rfl)); (cases q13; (kernel_rfl); (cases r <;> kernel_rfl))))))); (cases q7; (cases q10; (kernel_rfl); (cases q8; (kernel_rfl); (cases q11; (kernel_rfl); (cases q4; (kernel_rfl); (cases n; (cases q12; (cases q13; (kernel_rfl); (cases r <;> kernel_rfl)); (kernel_rfl)); (cases q13; (kernel_rfl); (cases r <;> kernel_rfl))))))); (cases q10; (kernel_rfl); (cases q8; (kernel_rfl); (cases q11; (kernel_rfl); (cases q4; (kernel_rfl); (cases n; (cases q12; (cases q13; (kernel_rfl); (cases r <;> kernel_rfl)); (kernel_rfl)); (cases q13; (kernel_rfl); (cases r <;> kernel_rfl))))))))))))
end
end Go.Proofs.YtmelepohdbojlaaGreat
