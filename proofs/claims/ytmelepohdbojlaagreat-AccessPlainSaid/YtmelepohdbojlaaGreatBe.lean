/- Permissions plainly; the reference's May, Both, Flag: contracts. Stage 6: what the program's calls are held against; the argument, opened; wakes. The program's May: contract. TLBs, plainly: entries, what takes them away, which are found. '==' of entries and of what takes them away. -/
import Derived.Test.YtmelepohdbojlaaGreatRow
import Derived.Test.YtmelepohdbojlaaGreatEq
import Derived.Test.YtmelepohdbojlaaGreatDb
import Derived.Test.YtmelepohdbojlaaGreatTl
import Derived.Test.YtmelepohdbojlaaGreatEj
import Derived.Deep.CutBlock
import Derived.Deep.DeepCutAuto
import Derived.Laws.StructEq
set_option linter.all false
namespace Go.Proofs.YtmelepohdbojlaaGreat
section
open Go.ChangeShapes Go.WideShapes Go.ChangeAt Go.RowKit Go.Deep
def mayA (t : Atr) (acc : Int) : Bool := ((decide (acc = 0) && t.r) || (decide (acc = 1) && t.w)) || (decide (acc = 2) && t.x)
def flagA (t : Atr) (acc st lv pg : Int) : Flt := if t.a = false then ⟨3, st, lv, false, pg⟩ else if mayA t acc = false then ⟨4, st, lv, false, pg⟩ else flt0
def bothS (x a : Atr) : Atr := ⟨x.r && a.r, x.w && a.w, x.x && a.x, x.a && a.a, x.n || a.n, x.s⟩
def both1 : Atr := ⟨true, true, true, true, false, 0⟩
def bothL (L : List Atr) : Atr := L.foldl bothS both1
def KA : RowK Atr where
 ts := 128
 t := 60
 N := 6
 B := 16
 z := .agg #[.bool false, .bool false, .bool false, .bool false, .bool false, .int .i64 0]
 V := atrC
 pos := by decide
 small := by decide
 size := fun _ => rfl
 one := fun q v hv => by
  simp only [atrC, List.mem_cons, List.not_mem_nil, or_false] at hv
  rcases hv with rfl | rfl | rfl | rfl | rfl | rfl <;> rfl
 under := Tryz.underlying128
 info := by kernel_rfl
 zs := rfl
theorem acc_any (acc : Int) (w : World) :
  Calls Tryz.prog 33 #[.int .i64 acc] w fun e w' => e = .returned (.bool (numB acc 2)) ∧ w = w' := by
 go_enter Tryz.func33, Tryz.ntmps33
 go_wp2_with fail
 refine (num_any _ _ _).mono ?_
 rintro e w1 ⟨rfl, rfl⟩
 go_wp2
 go_ret
 exact ⟨rfl, rfl⟩
theorem mayA_any (t : Atr) (acc : Int) (w : World) :
  Calls Tryz.prog 68 #[atrV t, .int .i64 acc] w fun e w' => e = .returned (.bool (mayA t acc)) ∧ Below w.heap.size w w' := by
 obtain ⟨r, wr, x, a, n, s⟩ := t
 obtain ⟨q0, hq0⟩ : ∃ b, (acc == 0) = b := ⟨_, rfl⟩
 obtain ⟨q1, hq1⟩ : ∃ b, (acc == 1) = b := ⟨_, rfl⟩
 obtain ⟨q2, hq2⟩ : ∃ b, (acc == 2) = b := ⟨_, rfl⟩
 exact calls_ex mixedT [] (.r 1 [(1, .rw (fun _ => .bool (acc == 0)) (fun _ => .bool q0)), a1 4 0 0, (8, .rw (fun _ => .bool (acc == 1)) (fun _ => .bool q1)), a1 11 0 1, (16, .rw (fun _ => .bool (acc == 2)) (fun _ => .bool q2)), a1 19 0 2] (.fin [] (fun _ => .bool (((q0 && r) || (q1 && wr)) || (q2 && x))) [])) Tryz.func68 rfl (Fits.nil w) (⟨fun _ => congrArg Value.bool hq0, fun _ => congrArg Value.bool hq1, fun _ => congrArg Value.bool hq2, fun _ _ h _ => ⟨ret_bool (by subst hq0 hq1 hq2; unfold mayA; rw [beq_int, beq_int, beq_int]), h.below⟩⟩) rfl (fun _ => by cases q0; (cases q1; (cases q2 <;> kernel_rfl); (cases wr; (cases q2 <;> kernel_rfl); (kernel_rfl))); (cases r; (cases q1; (cases q2 <;> kernel_rfl); (cases wr; (cases q2 <;> kernel_rfl); (kernel_rfl))); (kernel_rfl)))
theorem flagA_any (t : Atr) (acc st lv pg : Int) (w : World) :
  Calls Tryz.prog 46 #[atrV t, .int .i64 acc, .int .i64 st, .int .i64 lv, .int .i64 pg] w fun e w' => e = .returned (fltV (flagA t acc st lv pg)) ∧ Below w.heap.size w w' := by
 obtain ⟨r, wr, x, a, n, s⟩ := t
 obtain ⟨m, hm⟩ : ∃ m, mayA (Atr.mk r wr x a n s) acc = m := ⟨_, rfl⟩
 unfold flagA
 rw [hm]
 exact calls_ex mixedT [] (.r 1 [aN 5 2 0 5] (.r 2 [a1 1 0 3] (.split (!a) (.r 3 [a1 1 2 0] (.r 4 [aN 0 2 0 5, aN 1 1 0 5] (.fin [(1, 0, 5)] (fun _ => .agg #[.int .i64 3, .int .i64 st, .int .i64 lv, .bool false, .int .i64 pg]) []))) (.r 5 [aN 0 0 0 6, (2, .call 68 (fun _ => [.agg #[.bool r, .bool wr, .bool x, .bool a, .bool n, .int .i64 s], .int .i64 acc]) (fun _ => .bool m))] (.split (!m) (.r 6 [a1 1 2 0] (.r 7 [aN 0 2 0 5, aN 1 1 0 5] (.fin [(1, 0, 5)] (fun _ => .agg #[.int .i64 4, .int .i64 st, .int .i64 lv, .bool false, .int .i64 pg]) []))) (.r 8 [aN 1 1 0 5] (.fin [(1, 0, 5)] (fun _ => .agg #[.int .i64 0, .int .i64 0, .int .i64 0, .bool false, .int .i64 0]) []))))))) Tryz.func46 rfl (Fits.nil w) (⟨fun hS3 => fun _ _ h _ => ⟨by simp only [Bool.not_eq_true', Bool.not_eq_false'] at hS3; simp only [hS3, if_true, if_false, Bool.true_eq_false] <;> rfl, h.below⟩, fun hS3 => ⟨fun _ W _ => (mayA_any (Atr.mk r wr x a n s) acc W).mono fun _ _ h => ⟨h.1.trans (by rw [hm]), h.2⟩, fun hS4 => fun _ _ h _ => ⟨by simp only [Bool.not_eq_true', Bool.not_eq_false'] at hS3 hS4; simp only [hS3, hS4, if_true, if_false, Bool.true_eq_false] <;> rfl, h.below⟩, fun hS4 => fun _ _ h _ => ⟨by simp only [Bool.not_eq_true', Bool.not_eq_false'] at hS3 hS4; simp only [hS3, hS4, if_true, if_false, Bool.true_eq_false] <;> rfl, h.below⟩⟩⟩) rfl (fun _ => by kernel_rfl)
theorem both_take (L : List Atr) (k : Nat) (t : Atr) (h : L[k]? = some t) : bothL (L.take (k + 1)) = bothS (bothL (L.take k)) t := by
 unfold bothL
 rw [List.take_add_one, h, List.foldl_append]
 rfl
set_option maxRecDepth 100000 in
theorem both_loop (f : Option Addr) (l c b2 b3 : Nat) (Ls : List Atr) {w0 W : World} {a : Act} {R : Ending → World → Prop} (hL : RowsAt KA w0 f Ls) (hn : l = Ls.length) (hl : l ≤ 1000000) (hne : 0 < l → ∀ g, f = some g → g.block ≠ b3) (hR : True)
  (hT : Has Tryz.f44.ntmps [(0, .slice f l c), (2, .pointer (some ⟨b2, 0, none⟩)), (3, .pointer (some ⟨b3, 0, none⟩)), (4, .int .i64 0)] a) (hF : Fits [b3] w0 [⟨b3, 0, 60, (atrC (bothL (Ls.take 0))).toList, .own⟩] W) :
  (nthLoop Tryz.f44 0).wp Tryz.prog (fun ze a w => (ze = .exit 0 ∧ Has Tryz.f44.ntmps [(2, .pointer (some ⟨b2, 0, none⟩)), (3, .pointer (some ⟨b3, 0, none⟩))] a ∧ Fits [b3] w0 [⟨b3, 0, 60, (atrC (bothL (Ls.take l))).toList, .own⟩] w) ∨ (ze = .ret ∧ bodyPost Tryz.prog Tryz.f44 R .ret a w)) a W := by
 rw [show nthLoop Tryz.f44 0 = .loop (bodyOf (nthLoop Tryz.f44 0)) from by kernel_rfl]
 refine wp_loop_ex (fun (j : Nat) a w => j ≤ l ∧ Has Tryz.f44.ntmps [(0, .slice f l c), (2, .pointer (some ⟨b2, 0, none⟩)), (3, .pointer (some ⟨b3, 0, none⟩)), (4, .int .i64 j)] a ∧ Fits [b3] w0 [⟨b3, 0, 60, (atrC (bothL (Ls.take j))).toList, .own⟩] w) (fun j => l - j) 0 ⟨Nat.zero_le _, hT, hF⟩ fun j a w hI => ?_
 clear hT hF
 obtain ⟨hj, hT, hF⟩ := hI
 by_cases hlt : j < l
 ·have hd : decide ((j : Int) < l) = true := decide_eq_true (by omega)
  have hjw : IntKind.i64.wrap ((j : Int) + 1) = ((j + 1 : Nat) : Int) := (IntWalk.i64_in _ (by omega)).trans (by omega)
  obtain ⟨qj, hqj⟩ : ∃ q, Ls[j]? = some q := ⟨_, List.getElem?_eq_getElem (by omega)⟩
  obtain ⟨b1, o1, rfl, hF⟩ := hF.rows hL hqj (by exact Nat.le_refl _) (fun g hg => by simpa using hne (by omega) g hg)
  obtain ⟨⟨br, bw, bx, ba, bn, bs⟩, hB⟩ : ∃ t, bothL (Ls.take j) = t := ⟨_, rfl⟩
  rw [hB] at hF
  exact wp_ex mixedT Tryz.f44 [(0, .slice (some ⟨b1, o1, none⟩) l c), (2, .pointer (some ⟨b2, 0, none⟩)), (3, .pointer (some ⟨b3, 0, none⟩)), (4, .int .i64 j)] [⟨b3, 0, 60, (atrC ⟨br, bw, bx, ba, bn, bs⟩).toList, .own⟩, ⟨b1, o1 + j * 6, 60, (atrC qj).toList, .row⟩] (.r 3 [(3, .rw (fun _ => .bool (decide ((j : Int) < l))) (fun _ => .bool true))] (.r 5 [(2, .ix 128 (fun _ => .slice (some ⟨b1, o1, none⟩) l c) (fun _ => .int .i64 j) (fun _ => .pointer (some ⟨b1, o1 + j * 6, none⟩))), aN 3 1 0 6, aN 5 2 0 6] (.r 6 [a1 1 0 0, a1 4 2 0, a1 7 0 1, a1 10 2 1, a1 13 0 2, a1 16 2 2, a1 19 0 3, a1 22 2 3, a1 25 0 4, a1 28 2 4, a1 31 0 0, a1 33 0 1, a1 35 0 2, a1 37 0 3, a1 39 0 4] (.r 4 [(1, .rw (fun _ => .int .i64 (IntKind.i64.wrap (j + 1))) (fun _ => .int .i64 ((j + 1 : Nat) : Int)))] (.out none (fun _ => [(0, .slice (some ⟨b1, o1, none⟩) l c), (2, .pointer (some ⟨b2, 0, none⟩)), (3, .pointer (some ⟨b3, 0, none⟩)), (4, .int .i64 ((j + 1 : Nat) : Int))]) [(0, (fun _ => ⟨b3, 0, 60, [.bool (br && qj.r), .bool (bw && qj.w), .bool (bx && qj.x), .bool (ba && qj.a), .bool (bn || qj.n), .int .i64 bs], .own⟩))]))))) hT hF (⟨fun _ => congrArg Value.bool hd, fun _ _ => ix_row 128 60 b1 o1 _ _ j 6 Tryz.underlying128 (by kernel_rfl) hlt, fun _ => by rw [hjw], fun _ _ _ hT1 hF1 => ⟨j + 1, ⟨by omega, hT1, (by rw [both_take _ _ _ hqj, hB]; exact hF1)⟩, by omega⟩⟩) (J := fun ze a w => match ze with | .normal => ∃ j', (j' ≤ l ∧ Has Tryz.f44.ntmps [(0, .slice (some ⟨b1, o1, none⟩) l c), (2, .pointer (some ⟨b2, 0, none⟩)), (3, .pointer (some ⟨b3, 0, none⟩)), (4, .int .i64 j')] a ∧ Fits [b3] w0 [⟨b3, 0, 60, (atrC (bothL (Ls.take j'))).toList, .own⟩] w) ∧ l - j' < l - j | ze => (ze = .exit 0 ∧ Has Tryz.f44.ntmps [(2, .pointer (some ⟨b2, 0, none⟩)), (3, .pointer (some ⟨b3, 0, none⟩))] a ∧ Fits [b3] w0 [⟨b3, 0, 60, (atrC (bothL (Ls.take l))).toList, .own⟩] w) ∨ (ze = .ret ∧ bodyPost Tryz.prog Tryz.f44 R .ret a w)) (fun _ _ h => Or.inr ⟨rfl, h⟩) (fun e _ _ h => by cases e <;> exact h) (fun _ => by cases br; (cases bw; (cases bx; (cases ba; (cases bn <;> kernel_rfl); (cases bn <;> kernel_rfl)); (cases ba; (cases bn <;> kernel_rfl); (cases bn <;> kernel_rfl))); (cases bx; (cases ba; (cases bn <;> kernel_rfl); (cases bn <;> kernel_rfl)); (cases ba; (cases bn <;> kernel_rfl); (cases bn <;> kernel_rfl)))); (cases bw; (cases bx; (cases ba; (cases bn <;> kernel_rfl); (cases bn <;> kernel_rfl)); (cases ba; (cases bn <;> kernel_rfl); (cases bn <;> kernel_rfl))); (cases bx; (cases ba; (cases bn <;> kernel_rfl); (cases bn <;> kernel_rfl)); (cases ba; (cases bn <;> kernel_rfl); (cases bn <;> kernel_rfl)))))
 ·have hd : decide ((j : Int) < l) = false := decide_eq_false (by omega)
  exact wp_ex mixedT Tryz.f44 [(0, .slice f l c), (2, .pointer (some ⟨b2, 0, none⟩)), (3, .pointer (some ⟨b3, 0, none⟩)), (4, .int .i64 j)] [⟨b3, 0, 60, (atrC (bothL (Ls.take j))).toList, .own⟩] (.r 3 [(3, .rw (fun _ => .bool (decide ((j : Int) < l))) (fun _ => .bool false))] (.out (some 0) (fun _ => [(2, .pointer (some ⟨b2, 0, none⟩)), (3, .pointer (some ⟨b3, 0, none⟩))]) [(0, (fun _ => ⟨b3, 0, 60, (atrC (bothL (Ls.take j))).toList, .own⟩))])) hT hF (⟨fun _ => congrArg Value.bool hd, fun _ _ _ hT1 hF1 => Or.inl (by have hjl : j = l := (by omega); subst hjl; exact ⟨rfl, hT1, hF1⟩)⟩) (J := fun ze a w => match ze with | .normal => ∃ j', (j' ≤ l ∧ Has Tryz.f44.ntmps [(0, .slice f l c), (2, .pointer (some ⟨b2, 0, none⟩)), (3, .pointer (some ⟨b3, 0, none⟩)), (4, .int .i64 j')] a ∧ Fits [b3] w0 [⟨b3, 0, 60, (atrC (bothL (Ls.take j'))).toList, .own⟩] w) ∧ l - j' < l - j | ze => (ze = .exit 0 ∧ Has Tryz.f44.ntmps [(2, .pointer (some ⟨b2, 0, none⟩)), (3, .pointer (some ⟨b3, 0, none⟩))] a ∧ Fits [b3] w0 [⟨b3, 0, 60, (atrC (bothL (Ls.take l))).toList, .own⟩] w) ∨ (ze = .ret ∧ bodyPost Tryz.prog Tryz.f44 R .ret a w)) (fun _ _ h => Or.inr ⟨rfl, h⟩) (fun e _ _ h => by cases e <;> exact h) (fun _ => by kernel_rfl)
theorem bothA_any (f : Option Addr) (n c : Nat) (L : List Atr) (w : World) (hL : RowsAt KA w f L) (hn : n = L.length) (hl : L.length ≤ 100000) :
  Calls Tryz.prog 44 #[.slice f n c] w fun e w' => e = .returned (atrV (bothL L)) ∧ Below w.heap.size w w' := by
 exact calls_ex mixedT [] (.r 1 [aN 2 1 0 6] (.cc (nthLoop Tryz.f44 0) (fun E => [(0, .slice f n c), (2, .pointer (some ⟨E.b 0, 0, none⟩)), (3, .pointer (some ⟨E.b 1, 0, none⟩)), (4, .int .i64 0)]) [(1, (fun E => ⟨E.b 1, 0, 60, [.bool true, .bool true, .bool true, .bool true, .bool false, .int .i64 0], .own⟩))] (some 0) (fun E => [(2, .pointer (some ⟨E.b 0, 0, none⟩)), (3, .pointer (some ⟨E.b 1, 0, none⟩))]) [(1, (fun E => ⟨E.b 1, 0, 60, [.bool (bothL L).r, .bool (bothL L).w, .bool (bothL L).x, .bool (bothL L).a, .bool (bothL L).n, .int .i64 (bothL L).s], .own⟩))] 2 [] (.r 7 [aN 0 1 0 6, aN 1 0 0 6] (.fin [(0, 0, 6)] (fun _ => .agg #[.bool (bothL L).r, .bool (bothL L).w, .bool (bothL L).x, .bool (bothL L).a, .bool (bothL L).n, .int .i64 (bothL L).s]) [])))) Tryz.func44 rfl (Fits.nil w) (⟨fun E a W hT hF => wp_mono (both_loop f n c _ _ L (hL.below hF.keep.below) hn (by omega) (fun h => hL.ne (by omega) (hF.all 0 _ rfl).2.1) trivial hT (hF.self (fun i x hi b hb => by rcases i with _ | i; (obtain rfl := Option.some.inj hi; obtain rfl := Option.some.inj hb; exact List.mem_singleton.2 rfl); simp at hi))) fun e a w h => h.imp (fun h => ⟨h.1, CPost.box1 hF.keep hF.holds rfl rfl (fun _ h => nomatch h) h.2.1 (by have hz := h.2.2; rw [hn, List.take_length] at hz; exact hz)⟩) id, fun _ _ h _ => ⟨rfl, h.below⟩⟩) rfl (fun _ => by kernel_rfl)
end
section
open Go.ChangeShapes Go.WideShapes Go.ChangeAt Go.RowKit Go.Deep
def MayC : Prop := ∀ (t : Atr) (acc : Int) (w : World),
 Calls Tryz.prog 51 #[atrV t, .int .i64 acc] w fun e w' => e = .returned (.tuple #[.bool (numB acc 2 && mayA t acc), .int .i64 (if numB acc 2 = true then 0 else 1)]) ∧ Below w.heap.size w w'
def FlagC : Prop := ∀ (t : Atr) (acc st lv pg : Int) (w : World),
 Calls Tryz.prog 116 #[atrV t, .int .i64 acc, .int .i64 st, .int .i64 lv, .int .i64 pg] w fun e w' => e = .returned (.tuple #[fltV (if numB acc 2 = true then flagA t acc st lv pg else flt0), .int .i64 (if numB acc 2 = true then 0 else 1)]) ∧ Below w.heap.size w w'
def BothC : Prop := ∀ (f : Option Addr) (n c : Nat) (L : List Atr) (w : World), RowsAt KA w f L → n = L.length → L.length ≤ 100000 →
 Calls Tryz.prog 86 #[.slice f n c] w fun e w' => e = .returned (atrV (bothL L)) ∧ Below w.heap.size w w'
structure Q6 where
 f : Option Addr
 n : Nat
 c : Nat
 L : List Atr
 acc : Int
 st : Int
 lv : Int
 pg : Int
structure Ok6 (W : World) (q : Q6) : Prop where
 rows : RowsAt KA W q.f q.L
 len : q.n = q.L.length
 n1 : q.n ≤ 1000000000000000
 nil : q.f = none → q.c = 0
theorem Ok6.below {W w : World} {q : Q6} (h : Ok6 W q) (hb : Below W.heap.size W w) : Ok6 w q := ⟨h.rows.below hb, h.len, h.n1, h.nil⟩
section
variable {H : Type} {enc : TypeId × Value → H} {w : World} {base : Nat} {held : Bool}
theorem c_atr6 : Tryz.prog.cellsOf 60 = 6 := by kernel_rfl
theorem atr_cells6 {n : Nat} {cs : List Value} {y : DataW H × List MemPlace} (hlen : cs.length = 6) (h : DataW.trod enc Tryz.prog w base (fun _ => true) held n 60 cs = some y) :
  ∃ t : Atr, cs = (atrC t).toList := by
 match cs, hlen with
 | [v0, v1, v2, v3, v4, v5], _ =>
  obtain ⟨_, _, t0⟩ := part_of Tryz.underlying60 h 0 0 1 4 ⟨_, rfl, rfl, rfl⟩ c_bool
  obtain ⟨_, _, t1⟩ := part_of Tryz.underlying60 h 1 1 1 4 ⟨_, rfl, rfl, rfl⟩ c_bool
  obtain ⟨_, _, t2⟩ := part_of Tryz.underlying60 h 2 2 1 4 ⟨_, rfl, rfl, rfl⟩ c_bool
  obtain ⟨_, _, t3⟩ := part_of Tryz.underlying60 h 3 3 1 4 ⟨_, rfl, rfl, rfl⟩ c_bool
  obtain ⟨_, _, t4⟩ := part_of Tryz.underlying60 h 4 4 1 4 ⟨_, rfl, rfl, rfl⟩ c_bool
  obtain ⟨_, _, t5⟩ := part_of Tryz.underlying60 h 5 5 1 3 ⟨_, rfl, rfl, rfl⟩ c_int
  obtain ⟨r, h0⟩ := bool_cells t0
  obtain ⟨x1, h1⟩ := bool_cells t1
  obtain ⟨x2, h2⟩ := bool_cells t2
  obtain ⟨x3, h3⟩ := bool_cells t3
  obtain ⟨x4, h4⟩ := bool_cells t4
  obtain ⟨s, h5, _⟩ := int_cells t5
  simp at h0 h1 h2 h3 h4 h5
  exact ⟨⟨r, x1, x2, x3, x4, s⟩, by rw [h0, h1, h2, h3, h4, h5]; rfl⟩
end
end
section
open Go.ChangeShapes Go.WideShapes Go.ChangeAt Go.RowKit Go.Deep
def attC (t : Atr) (acc : Int) : Array Value := #[.bool t.r, .bool t.w, .bool t.x, .bool t.a, .bool t.n, .int .i64 t.s, .int .i64 acc]
def attV (t : Atr) (acc : Int) : Value := .agg (attC t acc)
theorem attemptOf_any (t : Atr) (acc : Int) (w : World) :
  Calls Tryz.prog 75 #[atrV t, .int .i64 acc] w fun e w' => e = .returned (attV t acc) ∧ Below w.heap.size w w' := by
 obtain ⟨r, wr, x, a, n, s⟩ := t
 unfold attV attC atrV atrC
 go_enter Tryz.func75, Tryz.ntmps75
 go_wp2
 go_returns
 exact ⟨rfl, by go_grown⟩
theorem attMay_any (t : Atr) (acc : Int) (w : World) :
  Calls Tryz.prog 76 #[attV t acc] w fun e w' => e = .returned (.bool (numB acc 2)) ∧ Below w.heap.size w w' := by
 obtain ⟨r, wr, x, a, n, s⟩ := t
 unfold attV attC
 simp only
 rw [show numB acc 2 = (decide (0 ≤ acc) && decide (acc ≤ 2)) from by simp [numB]]
 cases h0 : decide (0 ≤ acc)
 all_goals
  go_enter Tryz.func76, Tryz.ntmps76
  go_wp2
  go_ret
  exact ⟨by first | rfl | simp, by go_grown⟩
theorem attDo_any (t : Atr) (acc : Int) (w : World) :
  Calls Tryz.prog 77 #[attV t acc] w fun e w' => e = .returned (.bool (mayA t acc)) ∧ Below w.heap.size w w' := by
 obtain ⟨r, wr, x, a, n, s⟩ := t
 unfold attV attC
 unfold mayA
 simp only
 by_cases h0 : acc = 0
 ·subst h0
  cases r
  all_goals
   go_enter Tryz.func77, Tryz.ntmps77
   go_wp2
   go_ret
   exact ⟨rfl, by go_grown⟩
 by_cases h1 : acc = 1
 ·subst h1
  cases wr
  all_goals
   go_enter Tryz.func77, Tryz.ntmps77
   go_wp2
   go_ret
   exact ⟨rfl, by go_grown⟩
 by_cases h2 : acc = 2
 ·subst h2
  cases x
  all_goals
   go_enter Tryz.func77, Tryz.ntmps77
   go_wp2
   go_ret
   exact ⟨rfl, by go_grown⟩
 ·rw [decide_eq_false h0, decide_eq_false h1, decide_eq_false h2]
  go_enter Tryz.func77, Tryz.ntmps77
  go_wp2
  go_ret
  exact ⟨rfl, by go_grown⟩
set_option maxHeartbeats 3200000 in
theorem mayP_any (t : Atr) (acc : Int) (w : World) :
  Calls Tryz.prog 51 #[atrV t, .int .i64 acc] w fun e w' => e = .returned (.tuple #[.bool (numB acc 2 && mayA t acc), .int .i64 (if numB acc 2 = true then 0 else 1)]) ∧ Below w.heap.size w w' := by
 have HA := Lib.hid (fun W => attemptOf_any t acc W)
 have HB := Lib.hid (fun W => attMay_any t acc W)
 have HD := Lib.hid (fun W => attDo_any t acc W)
 generalize mayA t acc = m at *
 generalize numB acc 2 = b at *
 obtain ⟨r, wr, x, a, n, s⟩ := t
 unfold attV attC at *
 unfold atrV atrC at *
 simp only at *
 have A0 := Lib.hid (BoxAt.new w #[.bool r, .bool wr, .bool x, .bool a, .bool n, .int .i64 s] 60)
 have B0 := Lib.hid (bel_alloc (Below.refl w.heap.size w) (.cells #[.bool r, .bool wr, .bool x, .bool a, .bool n, .int .i64 s] 60))
 go_enter Tryz.func51, Tryz.ntmps51
 go_upto_region 1 with fail
 obtain ⟨W0, hW0⟩ : ∃ W0, W0 = w.alloc (.cells #[.bool r, .bool wr, .bool x, .bool a, .bool n, .int .i64 s] 60) := ⟨_, rfl⟩
 rw [← hW0] at A0 B0 ⊢
 clear hW0
 have Ac0 := A0.out.get 0 (.bool r) rfl
 have Ac1 := A0.out.get 1 (.bool wr) rfl
 have Ac2 := A0.out.get 2 (.bool x) rfl
 have Ac3 := A0.out.get 3 (.bool a) rfl
 have Ac4 := A0.out.get 4 (.bool n) rfl
 have Ac5 := A0.out.get 5 (.int .i64 s) rfl
 go_wp2_with fail
 refine (HA.out _).mono ?_
 rintro e w11 ⟨rfl, hb11⟩
 have A12 := Lib.hid (A0.out.below hb11)
 have B12 := Lib.hid (bel_trans B0.out hb11)
 clear Ac0 Ac1 Ac2 Ac3 Ac4 Ac5
 clear A0 B0 hb11
 go_upto_region 2 with fail
 have A13 := Lib.hid ((A12.out.alloc (.cells #[.bool r, .bool wr, .bool x, .bool a, .bool n, .int .i64 s, .int .i64 acc] 134)))
 have T13 := Lib.hid ((BoxAt.newAt (w11) #[.bool r, .bool wr, .bool x, .bool a, .bool n, .int .i64 s, .int .i64 acc] 134 (w11.heap.size) (by first | rfl | (simp; done) | (simp; omega))))
 have B13 := Lib.hid ((bel_alloc B12.out (.cells #[.bool r, .bool wr, .bool x, .bool a, .bool n, .int .i64 s, .int .i64 acc] 134)))
 clear A12 B12
 obtain ⟨W2, hW2⟩ : ∃ W2, W2 = w11.alloc (.cells #[.bool r, .bool wr, .bool x, .bool a, .bool n, .int .i64 s, .int .i64 acc] 134) := ⟨_, rfl⟩
 obtain ⟨bT, hbT⟩ : ∃ bT, bT = w11.heap.size := ⟨_, rfl⟩
 rw [← hW2] at A13 T13 B13 ⊢
 rw [← hbT] at T13 ⊢
 clear hW2 hbT
 have Tc0 := T13.out.get 0 (.bool r) rfl
 have Tc1 := T13.out.get 1 (.bool wr) rfl
 have Tc2 := T13.out.get 2 (.bool x) rfl
 have Tc3 := T13.out.get 3 (.bool a) rfl
 have Tc4 := T13.out.get 4 (.bool n) rfl
 have Tc5 := T13.out.get 5 (.int .i64 s) rfl
 have Tc6 := T13.out.get 6 (.int .i64 acc) rfl
 go_wp2_with fail
 refine (HB.out _).mono ?_
 rintro e w14 ⟨rfl, hb14⟩
 have A15 := Lib.hid (A13.out.below hb14)
 have T15 := Lib.hid (T13.out.below hb14)
 have B15 := Lib.hid (bel_trans B13.out hb14)
 clear Tc0 Tc1 Tc2 Tc3 Tc4 Tc5 Tc6
 clear A13 T13 B13 hb14
 cases b
 ·go_wp2
  go_ret2
  exact ⟨rfl, B15.out⟩
 ·have Tc0 := T15.out.get 0 (.bool r) rfl
  have Tc1 := T15.out.get 1 (.bool wr) rfl
  have Tc2 := T15.out.get 2 (.bool x) rfl
  have Tc3 := T15.out.get 3 (.bool a) rfl
  have Tc4 := T15.out.get 4 (.bool n) rfl
  have Tc5 := T15.out.get 5 (.int .i64 s) rfl
  have Tc6 := T15.out.get 6 (.int .i64 acc) rfl
  go_wp2_with fail
  refine (HD.out _).mono ?_
  rintro e w16 ⟨rfl, hb16⟩
  have A17 := Lib.hid (A15.out.below hb16)
  have T17 := Lib.hid (T15.out.below hb16)
  have B17 := Lib.hid (bel_trans B15.out hb16)
  clear Tc0 Tc1 Tc2 Tc3 Tc4 Tc5 Tc6
  clear A15 T15 B15 hb16
  go_wp2
  go_ret2
  exact ⟨rfl, B17.out⟩
end
section
open Go.ChangeShapes Go.WideShapes Go.ChangeAt Go.RowKit Go.Deep
structure Ety where
 k : Int
 vm : Int
 sp : Int
 al : Bool
 pg : Int
 lv : Int
 fr : Int
 mi : Int
 t : Atr
deriving DecidableEq
structure Inv where
 k : Int
 vm : Int
 sp : Int
 pg : Int
deriving DecidableEq
def entC (e : Ety) : Array Value := #[.int .i64 e.k, .int .i64 e.vm, .int .i64 e.sp, .bool e.al, .int .i64 e.pg, .int .i64 e.lv, .int .i64 e.fr, .int .i64 e.mi, .bool e.t.r, .bool e.t.w, .bool e.t.x, .bool e.t.a, .bool e.t.n, .int .i64 e.t.s]
def entV (e : Ety) : Value := .agg (entC e)
def invC (i : Inv) : Array Value := #[.int .i64 i.k, .int .i64 i.vm, .int .i64 i.sp, .int .i64 i.pg]
def invV (i : Inv) : Value := .agg (invC i)
def ent0 : Ety := ⟨0, 0, 0, false, 0, 0, 0, 0, atr0⟩
def inv0 : Inv := ⟨0, 0, 0, 0⟩
def eqE (a b : Ety) : Bool := decide (a = b)
def eqI (a b : Inv) : Bool := decide (a = b)
theorem eqE_self (a : Ety) : eqE a a = true := by simp [eqE]
def KE : RowK Ety where
 ts := 32
 t := 89
 N := 14
 B := 80
 z := .agg (entC ent0)
 V := entC
 pos := by decide
 small := by decide
 size := fun _ => rfl
 one := fun q v hv => by
  simp only [entC, List.mem_cons, List.not_mem_nil, or_false] at hv
  rcases hv with rfl | rfl | rfl | rfl | rfl | rfl | rfl | rfl | rfl | rfl | rfl | rfl | rfl | rfl <;> rfl
 under := Tryz.underlying32
 info := by kernel_rfl
 zs := rfl
def KI : RowK Inv where
 ts := 33
 t := 95
 N := 4
 B := 32
 z := .agg (invC inv0)
 V := invC
 pos := by decide
 small := by decide
 size := fun _ => rfl
 one := fun q v hv => by
  simp only [invC, List.mem_cons, List.not_mem_nil, or_false] at hv
  rcases hv with rfl | rfl | rfl | rfl <;> rfl
 under := Tryz.underlying33
 info := by kernel_rfl
 zs := rfl
def abvP (lv p : Int) : Int := p - p % cov (lv - 1)
def mayEn (e : Ety) : Bool := numB e.vm 15 && (numB e.sp 15 && (numB e.pg 4095 && (numB e.fr 4095 && (numB e.mi 4095 && (decide (e.t.s = 0) &&
 (if e.k = 1 then decide (e.lv = 0) else if e.k = 2 then decide (e.sp = 0) && (e.al && (decide (e.lv = 0) && (decide (e.mi = 0) && !e.t.n)))
  else if e.k = 3 then decide (1 ≤ e.lv) && (decide (e.lv ≤ 3) && (decide (abvP e.lv e.pg = e.pg) && (decide (e.mi = 0) && eqA e.t atr0))) else false))))))
def mayIn (i : Inv) : Bool := decide (1 ≤ i.k) && (decide (i.k ≤ 6) && (numB i.vm 15 && (numB i.sp 15 && numB i.pg 4095)))
def placeE (p : Ety → Bool) : List Ety → Int → Int
 | [], _ => -1
 | x :: L, k => if p x then k else placeE p L (k + 1)
def inE (L : List Ety) (e : Ety) : Int := placeE (fun x => eqE x e) L 0
def ofE (e : Ety) (vm sp : Int) : Bool := decide (e.vm = vm) && (e.al || decide (e.sp = sp))
def isWh (vm sp pg acc : Int) (e : Ety) : Bool := decide (e.k = 1) && (ofE e vm sp && (decide (e.pg = pg) && mayA e.t acc))
def isMd (vm pg acc : Int) (e : Ety) : Bool := decide (e.k = 2) && (decide (e.vm = vm) && (decide (e.pg = pg) && mayA e.t acc))
def isWk (vm sp pg : Int) (e : Ety) : Bool := decide (e.k = 3) && (ofE e vm sp && decide (e.pg = abvP e.lv pg))
def whole9 (E : List Ety) (vm sp pg acc : Int) : Int := placeE (isWh vm sp pg acc) E 0
def mid9 (E : List Ety) (vm pg acc : Int) : Int := placeE (isMd vm pg acc) E 0
def walkF (p : Ety → Bool) : List Ety → Int → Int → Int → Int
 | [], _, at', _ => at'
 | x :: L, k, at', lv => if p x && (decide (at' < 0) || decide (lv < x.lv)) then walkF p L (k + 1) k x.lv else walkF p L (k + 1) at' lv
def walk9 (E : List Ety) (vm sp pg : Int) : Int := walkF (isWk vm sp pg) E 0 (-1) 0
def fill9 (E : List Ety) (e : Ety) : List Ety := if inE E e < 0 ∧ E.length < 8 then E ++ [e] else E
def drop9 (E : List Ety) (i : Nat) : List Ety := E.take i ++ E.drop (i + 1)
end
section
open Go.ChangeShapes Go.WideShapes Go.ChangeAt Go.RowKit Go.Deep
theorem eq_ent (k vm sp : Int) (al : Bool) (pg lv fr mi : Int) (r wr x a n : Bool) (s : Int) (k' vm' sp' : Int) (al' : Bool) (pg' lv' fr' mi' : Int) (r' wr' x' a' n' : Bool) (s' : Int) (w : World) :
  (Op.equalIn 10000 89 (.agg #[.int .i64 k, .int .i64 vm, .int .i64 sp, .bool al, .int .i64 pg, .int .i64 lv, .int .i64 fr, .int .i64 mi, .bool r, .bool wr, .bool x, .bool a, .bool n, .int .i64 s]) (.agg #[.int .i64 k', .int .i64 vm', .int .i64 sp', .bool al', .int .i64 pg', .int .i64 lv', .int .i64 fr', .int .i64 mi', .bool r', .bool wr', .bool x', .bool a', .bool n', .int .i64 s'])).run Tryz.prog w = .ok (eqE ⟨k, vm, sp, al, pg, lv, fr, mi, ⟨r, wr, x, a, n, s⟩⟩ ⟨k', vm', sp', al', pg', lv', fr', mi', ⟨r', wr', x', a', n', s'⟩⟩) w := by
 rw [run_equalIn_agg w 9999 _ _ _ (by kernel_rfl) (by kernel_rfl)]
 simp only [Program.fieldsOf, Tryz.underlying89]
 simp [go_sem, eqE]
 by_cases h0 : k = k'
 rotate_left
 ·simp [h0]
 by_cases h1 : vm = vm'
 rotate_left
 ·simp [h0, h1]
 by_cases h2 : sp = sp'
 rotate_left
 ·simp [h0, h1, h2]
 by_cases h3 : al = al'
 rotate_left
 ·simp [h0, h1, h2, h3]
 by_cases h4 : pg = pg'
 rotate_left
 ·simp [h0, h1, h2, h3, h4]
 by_cases h5 : lv = lv'
 rotate_left
 ·simp [h0, h1, h2, h3, h4, h5]
 by_cases h6 : fr = fr'
 rotate_left
 ·simp [h0, h1, h2, h3, h4, h5, h6]
 by_cases h7 : mi = mi'
 rotate_left
 ·simp [h0, h1, h2, h3, h4, h5, h6, h7]
 by_cases h8 : r = r'
 rotate_left
 ·simp [h0, h1, h2, h3, h4, h5, h6, h7, h8]
 by_cases h9 : wr = wr'
 rotate_left
 ·simp [h0, h1, h2, h3, h4, h5, h6, h7, h8, h9]
 by_cases h10 : x = x'
 rotate_left
 ·simp [h0, h1, h2, h3, h4, h5, h6, h7, h8, h9, h10]
 by_cases h11 : a = a'
 rotate_left
 ·simp [h0, h1, h2, h3, h4, h5, h6, h7, h8, h9, h10, h11]
 by_cases h12 : n = n'
 rotate_left
 ·simp [h0, h1, h2, h3, h4, h5, h6, h7, h8, h9, h10, h11, h12]
 by_cases h13 : s = s'
 rotate_left
 ·simp [h0, h1, h2, h3, h4, h5, h6, h7, h8, h9, h10, h11, h12, h13]
 simp [h0, h1, h2, h3, h4, h5, h6, h7, h8, h9, h10, h11, h12, h13]
@[go_sem high] theorem eql_ent (k vm sp : Int) (al : Bool) (pg lv fr mi : Int) (r wr x a n : Bool) (s : Int) (k' vm' sp' : Int) (al' : Bool) (pg' lv' fr' mi' : Int) (r' wr' x' a' n' : Bool) (s' : Int) (w : World) :
  (binOp .eql 89 (.agg #[.int .i64 k, .int .i64 vm, .int .i64 sp, .bool al, .int .i64 pg, .int .i64 lv, .int .i64 fr, .int .i64 mi, .bool r, .bool wr, .bool x, .bool a, .bool n, .int .i64 s]) (.agg #[.int .i64 k', .int .i64 vm', .int .i64 sp', .bool al', .int .i64 pg', .int .i64 lv', .int .i64 fr', .int .i64 mi', .bool r', .bool wr', .bool x', .bool a', .bool n', .int .i64 s'])).run Tryz.prog w = .ok (.bool (eqE ⟨k, vm, sp, al, pg, lv, fr, mi, ⟨r, wr, x, a, n, s⟩⟩ ⟨k', vm', sp', al', pg', lv', fr', mi', ⟨r', wr', x', a', n', s'⟩⟩)) w := by
 rw [run_eql_struct, eq_ent]; rfl
@[go_sem high] theorem neq_ent (k vm sp : Int) (al : Bool) (pg lv fr mi : Int) (r wr x a n : Bool) (s : Int) (k' vm' sp' : Int) (al' : Bool) (pg' lv' fr' mi' : Int) (r' wr' x' a' n' : Bool) (s' : Int) (w : World) :
  (binOp .neq 89 (.agg #[.int .i64 k, .int .i64 vm, .int .i64 sp, .bool al, .int .i64 pg, .int .i64 lv, .int .i64 fr, .int .i64 mi, .bool r, .bool wr, .bool x, .bool a, .bool n, .int .i64 s]) (.agg #[.int .i64 k', .int .i64 vm', .int .i64 sp', .bool al', .int .i64 pg', .int .i64 lv', .int .i64 fr', .int .i64 mi', .bool r', .bool wr', .bool x', .bool a', .bool n', .int .i64 s'])).run Tryz.prog w = .ok (.bool (!eqE ⟨k, vm, sp, al, pg, lv, fr, mi, ⟨r, wr, x, a, n, s⟩⟩ ⟨k', vm', sp', al', pg', lv', fr', mi', ⟨r', wr', x', a', n', s'⟩⟩)) w := by
 rw [run_neq_struct, eq_ent]; rfl
theorem eq_inv (k vm sp pg : Int) (k' vm' sp' pg' : Int) (w : World) :
  (Op.equalIn 10000 95 (.agg #[.int .i64 k, .int .i64 vm, .int .i64 sp, .int .i64 pg]) (.agg #[.int .i64 k', .int .i64 vm', .int .i64 sp', .int .i64 pg'])).run Tryz.prog w = .ok (eqI ⟨k, vm, sp, pg⟩ ⟨k', vm', sp', pg'⟩) w := by
 rw [run_equalIn_agg w 9999 _ _ _ (by kernel_rfl) (by kernel_rfl)]
 simp only [Program.fieldsOf, Tryz.underlying95]
 simp [go_sem, eqI]
 by_cases h0 : k = k'
 rotate_left
 ·simp [h0]
 by_cases h1 : vm = vm'
 rotate_left
 ·simp [h0, h1]
 by_cases h2 : sp = sp'
 rotate_left
 ·simp [h0, h1, h2]
 by_cases h3 : pg = pg'
 rotate_left
 ·simp [h0, h1, h2, h3]
 simp [h0, h1, h2, h3]
@[go_sem high] theorem eql_inv (k vm sp pg : Int) (k' vm' sp' pg' : Int) (w : World) :
  (binOp .eql 95 (.agg #[.int .i64 k, .int .i64 vm, .int .i64 sp, .int .i64 pg]) (.agg #[.int .i64 k', .int .i64 vm', .int .i64 sp', .int .i64 pg'])).run Tryz.prog w = .ok (.bool (eqI ⟨k, vm, sp, pg⟩ ⟨k', vm', sp', pg'⟩)) w := by
 rw [run_eql_struct, eq_inv]; rfl
@[go_sem high] theorem neq_inv (k vm sp pg : Int) (k' vm' sp' pg' : Int) (w : World) :
  (binOp .neq 95 (.agg #[.int .i64 k, .int .i64 vm, .int .i64 sp, .int .i64 pg]) (.agg #[.int .i64 k', .int .i64 vm', .int .i64 sp', .int .i64 pg'])).run Tryz.prog w = .ok (.bool (!eqI ⟨k, vm, sp, pg⟩ ⟨k', vm', sp', pg'⟩)) w := by
 rw [run_neq_struct, eq_inv]; rfl
end
end Go.Proofs.YtmelepohdbojlaaGreat
