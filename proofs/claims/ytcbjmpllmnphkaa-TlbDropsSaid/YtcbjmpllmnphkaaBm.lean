/- Stage 9: the argument, opened; the law's small calls; the program's contracts over rows of the call's own. -/
import Derived.Test.YtcbjmpllmnphkaaVe
import Derived.Test.YtcbjmpllmnphkaaBi
import Derived.Test.YtcbjmpllmnphkaaBk
set_option linter.all false
namespace Go.Proofs.Ytcbjmpllmnphkaa
open Go.ChangeShapes Go.WideShapes Go.ChangeAt Go.RowKit Go.Deep

theorem OwnR.fit {Q : Type} {K : RowK Q} {w : World} {base n c : Nat} {f : Option Addr} {L : List Q} (h : OwnR K w base (.slice f n c) L) : n ≤ c ∧ c ≤ maxLen ∧ (f = none → c = 0) := by
  have hn := h.rows.1
  rcases h.2 with ⟨he, hz⟩ | ⟨g, cap, cur, he, hb, hg, hnc, hm, hs, ht⟩
  · simp only [Value.slice.injEq] at he
    obtain ⟨rfl, rfl, rfl⟩ := he
    exact ⟨Nat.le_refl _, by unfold maxLen; omega, fun _ => rfl⟩
  · simp only [Value.slice.injEq] at he
    obtain ⟨rfl, rfl, rfl⟩ := he
    exact ⟨hnc, hm, fun h => by cases h⟩
section
variable (base : Nat) (f g : Option Addr) (l c m d : Nat) (E : List Ety) (D : List Inv)
theorem checkO (W : World) (hE : OwnR KE W base (.slice f l c) E) (hD : OwnR KI W base (.slice g m d) D) (hl : l ≤ 90000) (hm : m ≤ 90000) :
    Calls Try.prog 29 #[.agg #[.slice f l c, .slice g m d]] W fun r w' => r = .returned (.int .i64 (if mayT E D = true then 0 else 1)) ∧ Below W.heap.size W w' :=
  checkC f g l c m d E D W hE.rows.2 hE.rows.1 hD.rows.2 hD.rows.1 hl hm hE.fit.1 hE.fit.2.1
theorem wholeO (vm sp pg acc : Int) (W : World) (hE : OwnR KE W base (.slice f l c) E) (hD : OwnR KI W base (.slice g m d) D) (hl : l ≤ 90000) (hm : m ≤ 90000) :
    Calls Try.prog 18 #[.agg #[.slice f l c, .slice g m d], .int .i64 vm, .int .i64 sp, .int .i64 pg, .int .i64 acc] W fun r w' => r = .returned (.tuple #[entV (firstR E D 1 vm sp pg acc).1, .int .i64 (firstR E D 1 vm sp pg acc).2]) ∧ Below W.heap.size W w' :=
  wholeC f g l c m d E D vm sp pg acc W hE.rows.2 hE.rows.1 hD.rows.2 hD.rows.1 hl hm hE.fit.1 hE.fit.2.1
theorem midO (vm pg acc : Int) (W : World) (hE : OwnR KE W base (.slice f l c) E) (hD : OwnR KI W base (.slice g m d) D) (hl : l ≤ 90000) (hm : m ≤ 90000) :
    Calls Try.prog 20 #[.agg #[.slice f l c, .slice g m d], .int .i64 vm, .int .i64 pg, .int .i64 acc] W fun r w' => r = .returned (.tuple #[entV (firstR E D 2 vm 0 pg acc).1, .int .i64 (firstR E D 2 vm 0 pg acc).2]) ∧ Below W.heap.size W w' :=
  midC f g l c m d E D vm pg acc W hE.rows.2 hE.rows.1 hD.rows.2 hD.rows.1 hl hm hE.fit.1 hE.fit.2.1
theorem walkO (vm sp pg : Int) (W : World) (hE : OwnR KE W base (.slice f l c) E) (hD : OwnR KI W base (.slice g m d) D) (hl : l ≤ 90000) (hm : m ≤ 90000) :
    Calls Try.prog 21 #[.agg #[.slice f l c, .slice g m d], .int .i64 vm, .int .i64 sp, .int .i64 pg] W fun r w' => r = .returned (.tuple #[entV (deepR E D vm sp pg).1, .int .i64 (deepR E D vm sp pg).2]) ∧ Below W.heap.size W w' :=
  walkC f g l c m d E D vm sp pg W hE.rows.2 hE.rows.1 hD.rows.2 hD.rows.1 hl hm hE.fit.1 hE.fit.2.1
theorem fillO (e : Ety) (W : World) (hE : OwnR KE W base (.slice f l c) E) (hD : OwnR KI W base (.slice g m d) D) (hl : l ≤ 90000) (hm : m ≤ 90000) :
    Calls Try.prog 27 #[.agg #[.slice f l c, .slice g m d], entV e] W (EndF W (fillR E D e)) :=
  fillC f g l c m d E D e W hE.rows.2 hE.rows.1 hD.rows.2 hD.rows.1 hl hm hE.fit.1 hE.fit.2.1 hE.fit.2.2 hD.fit.2.2
theorem dropO (n : Int) (W : World) (hE : OwnR KE W base (.slice f l c) E) (hD : OwnR KI W base (.slice g m d) D) (hl : l ≤ 90000) (hm : m ≤ 90000) :
    Calls Try.prog 15 #[.agg #[.slice f l c, .slice g m d], .int .i64 n] W (EndF W (dropR E D n)) :=
  dropC f g l c m d E D n W hE.rows.2 hE.rows.1 hD.rows.2 hD.rows.1 hl hm hE.fit.1 hE.fit.2.1 hE.fit.2.2 hD.fit.2.2
end
/-- An act. -/
structure Ac9 where
  d : Int
  n : Int
  vm : Int
  sp : Int
  acc : Int
  e : Ety
def ac9C (a : Ac9) : Array Value := #[.int .i64 a.d, .int .i64 a.n, .int .i64 a.vm, .int .i64 a.sp, .int .i64 a.acc, .int .i64 a.e.k, .int .i64 a.e.vm, .int .i64 a.e.sp, .bool a.e.al, .int .i64 a.e.pg, .int .i64 a.e.lv, .int .i64 a.e.fr, .int .i64 a.e.mi, .bool a.e.t.r, .bool a.e.t.w, .bool a.e.t.x, .bool a.e.t.a, .bool a.e.t.n, .int .i64 a.e.t.s]
def ac0 : Ac9 := ⟨0, 0, 0, 0, 0, ent0⟩
def K9 : RowK Ac9 where
  ts := 26
  t := 36
  N := 19
  B := 120
  z := .agg (ac9C ac0)
  V := ac9C
  pos := by decide
  small := by decide
  size := fun _ => rfl
  one := fun q v hv => by
    simp only [ac9C, List.mem_cons, List.not_mem_nil, or_false] at hv
    rcases hv with rfl | rfl | rfl | rfl | rfl | rfl | rfl | rfl | rfl | rfl | rfl | rfl | rfl | rfl | rfl | rfl | rfl | rfl | rfl <;> rfl
  under := Try.underlying26
  info := by kernel_rfl
  zs := rfl
section
variable {H : Type} {enc : TypeId × Value → H} {w : World} {base : Nat} {held : Bool}
theorem c_atr9 : Try.prog.cellsOf 32 = 6 := by kernel_rfl
theorem atr_cells9 {n : Nat} {cs : List Value} {y : DataW H × List MemPlace} (hlen : cs.length = 6) (h : DataW.trod enc Try.prog w base (fun _ => true) held n 32 cs = some y) :
    ∃ t : Atr, cs = (atrC t).toList := by
  match cs, hlen with
  | [v0, v1, v2, v3, v4, v5], _ =>
    obtain ⟨_, _, t0⟩ := part_of Try.underlying32 h 0 0 1 4 ⟨_, rfl, rfl, rfl⟩ c_bool
    obtain ⟨_, _, t1⟩ := part_of Try.underlying32 h 1 1 1 4 ⟨_, rfl, rfl, rfl⟩ c_bool
    obtain ⟨_, _, t2⟩ := part_of Try.underlying32 h 2 2 1 4 ⟨_, rfl, rfl, rfl⟩ c_bool
    obtain ⟨_, _, t3⟩ := part_of Try.underlying32 h 3 3 1 4 ⟨_, rfl, rfl, rfl⟩ c_bool
    obtain ⟨_, _, t4⟩ := part_of Try.underlying32 h 4 4 1 4 ⟨_, rfl, rfl, rfl⟩ c_bool
    obtain ⟨_, _, t5⟩ := part_of Try.underlying32 h 5 5 1 3 ⟨_, rfl, rfl, rfl⟩ c_int
    obtain ⟨r, h0⟩ := bool_cells t0
    obtain ⟨x1, h1⟩ := bool_cells t1
    obtain ⟨x2, h2⟩ := bool_cells t2
    obtain ⟨x3, h3⟩ := bool_cells t3
    obtain ⟨x4, h4⟩ := bool_cells t4
    obtain ⟨s, h5, _⟩ := int_cells t5
    simp at h0 h1 h2 h3 h4 h5
    exact ⟨⟨r, x1, x2, x3, x4, s⟩, by rw [h0, h1, h2, h3, h4, h5]; rfl⟩
theorem c_ent9 : Try.prog.cellsOf 34 = 14 := by kernel_rfl
theorem b_ent9 : Try.prog.bytesOf 34 = 80 := by kernel_rfl
theorem ent_cells9 {n : Nat} {cs : List Value} {y : DataW H × List MemPlace} (hlen : cs.length = 14) (h : DataW.trod enc Try.prog w base (fun _ => true) held n 34 cs = some y) :
    ∃ e : Ety, cs = (entC e).toList := by
  match cs, hlen with
  | [v0, v1, v2, v3, v4, v5, v6, v7, v8, v9, v10, v11, v12, v13], _ =>
    obtain ⟨_, _, t0⟩ := part_of Try.underlying34 h 0 0 1 3 ⟨_, rfl, rfl, rfl⟩ c_int
    obtain ⟨_, _, t1⟩ := part_of Try.underlying34 h 1 1 1 3 ⟨_, rfl, rfl, rfl⟩ c_int
    obtain ⟨_, _, t2⟩ := part_of Try.underlying34 h 2 2 1 3 ⟨_, rfl, rfl, rfl⟩ c_int
    obtain ⟨_, _, t3⟩ := part_of Try.underlying34 h 3 3 1 4 ⟨_, rfl, rfl, rfl⟩ c_bool
    obtain ⟨_, _, t4⟩ := part_of Try.underlying34 h 4 4 1 3 ⟨_, rfl, rfl, rfl⟩ c_int
    obtain ⟨_, _, t5⟩ := part_of Try.underlying34 h 5 5 1 3 ⟨_, rfl, rfl, rfl⟩ c_int
    obtain ⟨_, _, t6⟩ := part_of Try.underlying34 h 6 6 1 3 ⟨_, rfl, rfl, rfl⟩ c_int
    obtain ⟨_, _, t7⟩ := part_of Try.underlying34 h 7 7 1 3 ⟨_, rfl, rfl, rfl⟩ c_int
    obtain ⟨_, _, t8⟩ := part_of Try.underlying34 h 8 8 6 32 ⟨_, rfl, rfl, rfl⟩ c_atr9
    obtain ⟨x0, h0, _⟩ := int_cells t0
    obtain ⟨x1, h1, _⟩ := int_cells t1
    obtain ⟨x2, h2, _⟩ := int_cells t2
    obtain ⟨x3, h3⟩ := bool_cells t3
    obtain ⟨x4, h4, _⟩ := int_cells t4
    obtain ⟨x5, h5, _⟩ := int_cells t5
    obtain ⟨x6, h6, _⟩ := int_cells t6
    obtain ⟨x7, h7, _⟩ := int_cells t7
    obtain ⟨x8, h8⟩ := atr_cells9 (by rfl) t8
    simp [atrC] at h0 h1 h2 h3 h4 h5 h6 h7 h8
    obtain ⟨h8, h9, h10, h11, h12, h13⟩ := h8
    exact ⟨⟨x0, x1, x2, x3, x4, x5, x6, x7, x8⟩, by rw [h0, h1, h2, h3, h4, h5, h6, h7, h8, h9, h10, h11, h12, h13]; rfl⟩
theorem c_inv9 : Try.prog.cellsOf 66 = 4 := by kernel_rfl
theorem b_inv9 : Try.prog.bytesOf 66 = 32 := by kernel_rfl
theorem inv_cells9 {n : Nat} {cs : List Value} {y : DataW H × List MemPlace} (hlen : cs.length = 4) (h : DataW.trod enc Try.prog w base (fun _ => true) held n 66 cs = some y) :
    ∃ e : Inv, cs = (invC e).toList := by
  match cs, hlen with
  | [v0, v1, v2, v3], _ =>
    obtain ⟨_, _, t0⟩ := part_of Try.underlying66 h 0 0 1 3 ⟨_, rfl, rfl, rfl⟩ c_int
    obtain ⟨_, _, t1⟩ := part_of Try.underlying66 h 1 1 1 3 ⟨_, rfl, rfl, rfl⟩ c_int
    obtain ⟨_, _, t2⟩ := part_of Try.underlying66 h 2 2 1 3 ⟨_, rfl, rfl, rfl⟩ c_int
    obtain ⟨_, _, t3⟩ := part_of Try.underlying66 h 3 3 1 3 ⟨_, rfl, rfl, rfl⟩ c_int
    obtain ⟨x0, h0, _⟩ := int_cells t0
    obtain ⟨x1, h1, _⟩ := int_cells t1
    obtain ⟨x2, h2, _⟩ := int_cells t2
    obtain ⟨x3, h3, _⟩ := int_cells t3
    simp at h0 h1 h2 h3
    exact ⟨⟨x0, x1, x2, x3⟩, by rw [h0, h1, h2, h3]; rfl⟩
theorem c_ents9 : Try.prog.cellsOf 22 = 1 := by kernel_rfl
theorem c_invs9 : Try.prog.cellsOf 23 = 1 := by kernel_rfl
theorem c_acts9 : Try.prog.cellsOf 26 = 1 := by kernel_rfl
theorem c_tlb9 : Try.prog.cellsOf 25 = 2 := by kernel_rfl
theorem c_act9 : Try.prog.cellsOf 36 = 19 := by kernel_rfl
theorem b_act9 : Try.prog.bytesOf 36 = 120 := by kernel_rfl
theorem ents_cap9 {n : Nat} {c : Value} {y : DataW H × List MemPlace} (h : DataW.trod enc Try.prog w base (fun _ => true) held n 22 [c] = some y) (hz : Lite Try.prog 22 y.1) :
    ∃ (f : Option Addr) (l cap : Nat) (L : List Ety), c = .slice f l cap ∧ l = L.length ∧ l ≤ 1000000000000000 ∧ RowsAt KE w f L := by
  obtain ⟨f, l, cap, q, rfl, hc, hl, hq, hn⟩ := seq_nil entC (fun _ _ => True) ent0 Try.underlying22 c_ent9 (by decide) b_ent9 (by decide) (fun hl ht _ => by
    obtain ⟨a, rfl⟩ := ent_cells9 hl ht
    exact ⟨a, rfl, trivial⟩) h hz
  have := reach_small
  exact ⟨f, l, cap, (List.range l).map q, rfl, by simp, by omega, RowsAt.of_seq (K := KE) hq⟩
theorem invs_cap9 {n : Nat} {c : Value} {y : DataW H × List MemPlace} (h : DataW.trod enc Try.prog w base (fun _ => true) held n 23 [c] = some y) (hz : Lite Try.prog 23 y.1) :
    ∃ (f : Option Addr) (l cap : Nat) (L : List Inv), c = .slice f l cap ∧ l = L.length ∧ l ≤ 1000000000000000 ∧ RowsAt KI w f L := by
  obtain ⟨f, l, cap, q, rfl, hc, hl, hq, hn⟩ := seq_nil invC (fun _ _ => True) inv0 Try.underlying23 c_inv9 (by decide) b_inv9 (by decide) (fun hl ht _ => by
    obtain ⟨a, rfl⟩ := inv_cells9 hl ht
    exact ⟨a, rfl, trivial⟩) h hz
  have := reach_small
  exact ⟨f, l, cap, (List.range l).map q, rfl, by simp, by omega, RowsAt.of_seq (K := KI) hq⟩
theorem act_cells9 {n : Nat} {cs : List Value} {y : DataW H × List MemPlace} (hlen : cs.length = 19) (h : DataW.trod enc Try.prog w base (fun _ => true) held n 36 cs = some y) :
    ∃ a : Ac9, cs = (ac9C a).toList := by
  match cs, hlen with
  | [u0, u1, u2, u3, u4, v0, v1, v2, v3, v4, v5, v6, v7, v8, v9, v10, v11, v12, v13], _ =>
    obtain ⟨_, _, t0⟩ := part_of Try.underlying36 h 0 0 1 3 ⟨_, rfl, rfl, rfl⟩ c_int
    obtain ⟨_, _, t1⟩ := part_of Try.underlying36 h 1 1 1 3 ⟨_, rfl, rfl, rfl⟩ c_int
    obtain ⟨_, _, t2⟩ := part_of Try.underlying36 h 2 2 1 3 ⟨_, rfl, rfl, rfl⟩ c_int
    obtain ⟨_, _, t3⟩ := part_of Try.underlying36 h 3 3 1 3 ⟨_, rfl, rfl, rfl⟩ c_int
    obtain ⟨_, _, t4⟩ := part_of Try.underlying36 h 4 4 1 3 ⟨_, rfl, rfl, rfl⟩ c_int
    obtain ⟨_, _, t5⟩ := part_of Try.underlying36 h 5 5 14 34 ⟨_, rfl, rfl, rfl⟩ c_ent9
    obtain ⟨x0, h0, _⟩ := int_cells t0
    obtain ⟨x1, h1, _⟩ := int_cells t1
    obtain ⟨x2, h2, _⟩ := int_cells t2
    obtain ⟨x3, h3, _⟩ := int_cells t3
    obtain ⟨x4, h4, _⟩ := int_cells t4
    obtain ⟨e, h5⟩ := ent_cells9 (by rfl) t5
    simp at h0 h1 h2 h3 h4
    have h6 : [v0, v1, v2, v3, v4, v5, v6, v7, v8, v9, v10, v11, v12, v13] = (entC e).toList := h5
    refine ⟨⟨x0, x1, x2, x3, x4, e⟩, ?_⟩
    rw [h0, h1, h2, h3, h4, h6]
    rfl
/-- The argument of stage 9's laws. -/
theorem script9 {n : Nat} {cs : List Value} {y : DataW H × List MemPlace} (hlen : cs.length = 3) (h : DataW.trod enc Try.prog w base (fun _ => true) held n 28 cs = some y) (hz : Lite Try.prog 28 y.1) :
    ∃ (f g h : Option Addr) (l c m d n k : Nat) (E : List Ety) (D : List Inv) (A : List Ac9), cs = [.slice f l c, .slice g m d, .slice h n k] ∧ l = E.length ∧ l ≤ 1000000000000000 ∧ RowsAt KE w f E ∧ m = D.length ∧ m ≤ 1000000000000000 ∧ RowsAt KI w g D ∧ n = A.length ∧ n ≤ 1000000000000000 ∧ RowsAt K9 w h A := by
  match cs, hlen with
  | [v0, v1, v2], _ =>
    obtain ⟨_, _, t0, z0⟩ := part_lite Try.underlying28 h hz 0 0 2 25 ⟨_, rfl, rfl, rfl⟩ c_tlb9
    obtain ⟨_, _, t1, z1⟩ := part_lite Try.underlying28 h hz 1 2 1 26 ⟨_, rfl, rfl, rfl⟩ c_acts9
    have t0' : DataW.trod enc Try.prog w base (fun _ => true) held _ 25 [v0, v1] = some _ := t0
    obtain ⟨_, _, r0, y0⟩ := part_lite Try.underlying25 t0' z0 0 0 1 22 ⟨_, rfl, rfl, rfl⟩ c_ents9
    obtain ⟨_, _, r1, y1⟩ := part_lite Try.underlying25 t0' z0 1 1 1 23 ⟨_, rfl, rfl, rfl⟩ c_invs9
    obtain ⟨f, l, c, E, e1, a1, a2, a3⟩ := ents_cap9 r0 y0
    obtain ⟨g, m, d, D, e2, b1, b2, b3⟩ := invs_cap9 r1 y1
    obtain ⟨fh, fn, fk, q, e3, hc, hl, hq, hn⟩ := seq_nil ac9C (fun _ _ => True) ac0 Try.underlying26 c_act9 (by decide) b_act9 (by decide) (fun hl ht _ => by
      obtain ⟨a, rfl⟩ := act_cells9 hl ht
      exact ⟨a, rfl, trivial⟩) t1 z1
    have := reach_small
    subst e1 e2 e3
    exact ⟨f, g, fh, l, c, m, d, fn, fk, E, D, (List.range fn).map q, rfl, a1, a2, a3, b1, b2, b3, by simp, by omega, RowsAt.of_seq (K := K9) hq⟩
end
theorem num9_any (n : Int) (w : World) :
    Calls Try.prog 28 #[.int .i64 n] w fun e w' => e = .returned (.int .i64 n) ∧ w = w' := by
  go_enter Try.func28, Try.ntmps28
  go_wp2
  go_ret
  exact ⟨rfl, rfl⟩
def within9 (x n : Int) : Int := x % 18446744073709551616 % n
theorem within9_any (x n : Int) (w : World) (h0 : 1 ≤ n) (h1 : n ≤ 9223372036854775807) :
    Calls Try.prog 12 #[.int .i64 x, .int .i64 n] w fun e w' => e = .returned (.int .i64 (within9 x n)) ∧ w = w' := by
  go_enter Try.func12, Try.ntmps12
  go_wp2
  go_ret
  refine ⟨ret_int ?_, rfl⟩
  have e : (IntKind.u64.wrap x).tmod n = within9 x n := by
    rw [IntKind.wrap_u64]
    exact Int.tmod_eq_emod_of_nonneg (Int.emod_nonneg _ (by omega))
  have l : 0 ≤ within9 x n := Int.emod_nonneg _ (by omega)
  have k : within9 x n < n := Int.emod_lt_of_pos _ (by omega)
  rw [e]
  exact IntWalk.wrap64_in _ ⟨by omega, by omega⟩
theorem within9_7 (x : Int) : 0 ≤ within9 x 7 ∧ within9 x 7 < 7 := ⟨Int.emod_nonneg _ (by omega), Int.emod_lt_of_pos _ (by omega)⟩
theorem weight9_any (f g : Option Addr) (l c m d : Nat) (w : World) (hl : l ≤ 1000000000000000) (hm : m ≤ 1000000000000000) :
    Calls Try.prog 36 #[.agg #[.slice f l c, .slice g m d]] w fun r w' => r = .returned (.int .i64 ((l : Int) + (m : Int))) ∧ Below w.heap.size w w' := by
  have hw : IntKind.i64.wrap ((l : Int) + (m : Int)) = (l : Int) + (m : Int) := IntWalk.i64_in _ (by omega)
  go_enter Try.func36, Try.ntmps36
  go_wp2
  go_ret
  exact ⟨rfl, by go_grown⟩
/-- The entry that wakes fills in. -/
def ewk : Ety := ⟨2, 0, 0, true, 3, 0, 4, 0, ⟨true, false, false, false, false, 0⟩⟩
set_option maxRecDepth 100000 in
set_option maxHeartbeats 3200000 in
theorem heavy9_any (f g h : Option Addr) (l c m d n k : Nat) (w : World) (hl : l ≤ 1000000000000000) (hm : m ≤ 1000000000000000) :
    Calls Try.prog 9 #[.agg #[.slice f l c, .slice g m d, .slice h n k]] w fun r w' => r = .returned (.bool (decide (200 < (l : Int) + (m : Int)) || decide (500 < (n : Int)))) ∧ Below w.heap.size w w' := by
  have HW := Lib.hid (fun W => weight9_any f g l c m d W hl hm)
  obtain ⟨lm, hlm⟩ : ∃ lm, lm = (l : Int) + (m : Int) := ⟨_, rfl⟩
  rw [← hlm] at HW ⊢
  clear hlm
  obtain ⟨q1, hq1⟩ : ∃ q, q = decide (200 < lm) := ⟨_, rfl⟩
  obtain ⟨q2, hq2⟩ : ∃ q, q = decide (500 < (n : Int)) := ⟨_, rfl⟩
  rw [← hq1, ← hq2]
  have hq3 := hq1.symm
  have hq4 := hq2.symm
  clear hq1 hq2
  have htw : w.heap.size ≤ w.heap.size := Nat.le_refl _
  have B0 := Lib.hid (Below.refl w.heap.size w)
  go_enter Try.func9, Try.ntmps9
  go_upto_region 1 with fail
  have P1 := Lib.hid ((BoxAt.newAt (w) #[.slice f l c, .slice g m d, .slice h n k] 28 (w.heap.size) (by first | omega | (simp; done) | (simp; omega))))
  have B1 := Lib.hid ((bel_alloc B0.out (.cells #[.slice f l c, .slice g m d, .slice h n k] 28)))
  obtain ⟨g1, hg1⟩ : ∃ g1, g1 = w.heap.size := ⟨_, rfl⟩
  obtain ⟨W1, hW1⟩ : ∃ W1, W1 = (w).alloc (.cells #[.slice f l c, .slice g m d, .slice h n k] 28) := ⟨_, rfl⟩
  have hs1 : g1 + 1 ≤ W1.heap.size := by rw [hW1, hg1]; simp
  rw [← hW1] at P1 B1 ⊢
  have hb1 : w.heap.size ≤ g1 := by omega
  rw [← hg1] at P1 ⊢
  clear hg1
  clear hW1 B0
  have Pc0 := P1.out.get 0 (.slice f l c) rfl
  have Pc1 := P1.out.get 1 (.slice g m d) rfl
  go_wp2_with fail
  refine (HW.out _).mono ?_
  rintro e w2 ⟨rfl, hb2⟩
  have hz2 := hb2.size
  have P2 := Lib.hid (P1.out.below hb2)
  have B2 := Lib.hid (bel_trans B1.out hb2)
  skip
  have hs2 : g1 + 1 ≤ w2.heap.size := by omega
  clear Pc0 Pc1
  clear P1 B1 hs1 hb2 hz2
  cases q1
  · have Pc2 := P2.out.get 2 (.slice h n k) rfl
    go_wp2
    all_goals
      go_ret
      exact ⟨ret_bool (by first | rfl | (simp; done)), B2.out⟩
  go_wp2
  all_goals
    go_ret
    exact ⟨ret_bool (by first | rfl | (simp; done)), B2.out⟩
set_option maxRecDepth 100000 in
set_option maxHeartbeats 3200000 in
theorem wakes9_any (w : World) :
    Calls Try.prog 32 #[] w fun r w' => r = .returned (.bool true) ∧ Below w.heap.size w w' := by
  have hf := fun W => fillO W.heap.size none none 0 0 0 0 [] [] ewk W (OwnR.nil _ _) (OwnR.nil _ _) (by decide) (by decide)
  rw [show fillR [] [] ewk = ([ewk], [], 0) from rfl] at hf
  simp only [EndF, entV, entC] at hf
  rw [show ewk = (⟨2, 0, 0, true, 3, 0, 4, 0, ⟨true, false, false, false, false, 0⟩⟩ : Ety) from rfl] at hf
  simp only at hf
  have HF := Lib.hid hf
  clear hf
  have htw : w.heap.size ≤ w.heap.size := Nat.le_refl _
  have B0 := Lib.hid (Below.refl w.heap.size w)
  go_enter Try.func32, Try.ntmps32
  go_wp2_with fail
  refine (HF.out _).mono ?_
  rintro e w1 ⟨f1, l1, c1, g1, m1, d1, rfl, hl1, hm1, hE1, hD1, hb1⟩
  obtain rfl : l1 = 1 := hl1
  obtain rfl : m1 = 0 := hm1
  have OE1 := Lib.hid (OwnR.mono hE1 (base' := w.heap.size) (by first | omega | (simp; done) | (simp; omega)))
  have OD1 := Lib.hid (OwnR.mono hD1 (base' := w.heap.size) (by first | omega | (simp; done) | (simp; omega)))
  clear hE1 hD1
  have hz1 := hb1.size
  have B1 := Lib.hid (bel_trans B0.out hb1)
  skip
  have hs1 : w.heap.size ≤ w1.heap.size := by omega
  clear B0 hb1 hz1
  go_upto_region 2 with fail
  have T2 := Lib.hid ((BoxAt.newAt (w1) #[.slice f1 1 c1, .slice g1 0 d1] 25 (w1.heap.size) (by first | omega | (simp; done) | (simp; omega))))
  have E2 := Lib.hid ((OE1.out.alloc (.cells #[.slice f1 1 c1, .slice g1 0 d1] 25)))
  have D2 := Lib.hid ((OD1.out.alloc (.cells #[.slice f1 1 c1, .slice g1 0 d1] 25)))
  have B2 := Lib.hid ((bel_alloc B1.out (.cells #[.slice f1 1 c1, .slice g1 0 d1] 25)))
  obtain ⟨g2, hg2⟩ : ∃ g2, g2 = w1.heap.size := ⟨_, rfl⟩
  obtain ⟨W2, hW2⟩ : ∃ W2, W2 = (w1).alloc (.cells #[.slice f1 1 c1, .slice g1 0 d1] 25) := ⟨_, rfl⟩
  have hs2 : g2 + 1 ≤ W2.heap.size := by rw [hW2, hg2]; simp
  rw [← hW2] at T2 E2 D2 B2 ⊢
  have hb2 : w.heap.size ≤ g2 := by omega
  rw [← hg2] at T2 ⊢
  clear hg2
  clear hW2 OE1 OD1 B1 hs1
  have Tc0 := T2.out.get 0 (.slice f1 1 c1) rfl
  have Tc1 := T2.out.get 1 (.slice g1 0 d1) rfl
  go_wp2_with fail
  refine (midO w.heap.size f1 g1 1 c1 0 d1 [ewk] [] 0 3 0 _ (E2.out) (D2.out) (by omega) (by omega)).mono ?_
  rintro e w3 ⟨rfl, hb3⟩
  rw [show firstR [ewk] [] 2 0 0 3 0 = (ewk, 0) from rfl]
  simp only [entV, entC, ewk]
  have hz3 := hb3.size
  have T3 := Lib.hid (T2.out.below hb3)
  have E3 := Lib.hid (E2.out.below hb3)
  have D3 := Lib.hid (D2.out.below hb3)
  have B3 := Lib.hid (bel_trans B2.out hb3)
  skip
  have hs3 : g2 + 1 ≤ w3.heap.size := by omega
  clear Tc0 Tc1
  clear T2 E2 D2 B2 hs2 hb3 hz3
  go_upto_region 3 with fail
  have T4 := Lib.hid ((T3.out.alloc (.cells #[.int .i64 2, .int .i64 0, .int .i64 0, .bool true, .int .i64 3, .int .i64 0, .int .i64 4, .int .i64 0, .bool true, .bool false, .bool false, .bool false, .bool false, .int .i64 0] 34)))
  have Y4 := Lib.hid ((BoxAt.newAt (w3) #[.int .i64 2, .int .i64 0, .int .i64 0, .bool true, .int .i64 3, .int .i64 0, .int .i64 4, .int .i64 0, .bool true, .bool false, .bool false, .bool false, .bool false, .int .i64 0] 34 (w3.heap.size) (by first | omega | (simp; done) | (simp; omega))))
  have E4 := Lib.hid ((E3.out.alloc (.cells #[.int .i64 2, .int .i64 0, .int .i64 0, .bool true, .int .i64 3, .int .i64 0, .int .i64 4, .int .i64 0, .bool true, .bool false, .bool false, .bool false, .bool false, .int .i64 0] 34)))
  have D4 := Lib.hid ((D3.out.alloc (.cells #[.int .i64 2, .int .i64 0, .int .i64 0, .bool true, .int .i64 3, .int .i64 0, .int .i64 4, .int .i64 0, .bool true, .bool false, .bool false, .bool false, .bool false, .int .i64 0] 34)))
  have B4 := Lib.hid ((bel_alloc B3.out (.cells #[.int .i64 2, .int .i64 0, .int .i64 0, .bool true, .int .i64 3, .int .i64 0, .int .i64 4, .int .i64 0, .bool true, .bool false, .bool false, .bool false, .bool false, .int .i64 0] 34)))
  obtain ⟨g4, hg4⟩ : ∃ g4, g4 = w3.heap.size := ⟨_, rfl⟩
  obtain ⟨W4, hW4⟩ : ∃ W4, W4 = (w3).alloc (.cells #[.int .i64 2, .int .i64 0, .int .i64 0, .bool true, .int .i64 3, .int .i64 0, .int .i64 4, .int .i64 0, .bool true, .bool false, .bool false, .bool false, .bool false, .int .i64 0] 34) := ⟨_, rfl⟩
  have hs4 : g4 + 1 ≤ W4.heap.size := by rw [hW4, hg4]; simp
  rw [← hW4] at T4 Y4 E4 D4 B4 ⊢
  have hb4 : g2 + 1 ≤ g4 := by omega
  rw [← hg4] at Y4 ⊢
  clear hg4
  clear hW4 T3 E3 D3 B3 hs3
  go_wp2_with fail
  refine (num9_any _ _).mono ?_
  rintro e w5 ⟨rfl, rfl⟩
  go_wp2_with fail
  refine (num9_any _ _).mono ?_
  rintro e w6 ⟨rfl, rfl⟩
  have Yc6 := Y4.out.get 6 (.int .i64 4) rfl
  go_wp2
  all_goals
    go_ret
    exact ⟨rfl, B4.out⟩
end Go.Proofs.Ytcbjmpllmnphkaa
