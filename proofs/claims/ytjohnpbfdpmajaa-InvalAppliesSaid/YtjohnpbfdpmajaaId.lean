/- Stage 10: the argument, opened; heavy; wakes. -/
import Derived.Test.YtjohnpbfdpmajaaIc
import Derived.Test.YtjohnpbfdpmajaaBl
import Derived.Test.YtjohnpbfdpmajaaBk
set_option linter.all false
namespace Go.Proofs.Ytjohnpbfdpmajaa
open Go.ChangeShapes Go.WideShapes Go.ChangeAt Go.RowKit Go.Deep

theorem OwnR.fit {Q : Type} {K : RowK Q} {w : World} {base n c : Nat} {f : Option Addr} {L : List Q} (h : OwnR K w base (.slice f n c) L) : n ≤ c ∧ c ≤ maxLen ∧ (f = none → c = 0) := by
  have hn := h.rows.1
  rcases h.2 with ⟨he, hz⟩ | ⟨g, cap, cur, he, hb, hg, hnc, hm, hs, ht⟩
  · simp only [Value.slice.injEq] at he
    obtain ⟨rfl, rfl, rfl⟩ := he
    exact ⟨Nat.le_refl _, by unfold maxLen; omega, fun _ => rfl⟩
  · simp only [Value.slice.injEq] at he
    obtain ⟨rfl, rfl, rfl⟩ := he
    exact ⟨hnc, hm, fun h => by cases h⟩
/-- A TLB's own two slices. -/
structure Tlh where
  f : Option Addr
  l : Nat
  c : Nat
  g : Option Addr
  m : Nat
  d : Nat
def tlhC (t : Tlh) : Array Value := #[.slice t.f t.l t.c, .slice t.g t.m t.d]
def tlh0 : Tlh := ⟨none, 0, 0, none, 0, 0⟩
def KT : RowK Tlh where
  ts := 22
  t := 43
  N := 2
  B := 48
  z := .agg (tlhC tlh0)
  V := tlhC
  pos := by decide
  small := by decide
  size := fun _ => rfl
  one := fun q v hv => by
    simp only [tlhC, List.mem_cons, List.not_mem_nil, or_false] at hv
    rcases hv with rfl | rfl <;> rfl
  under := Try.underlying22
  info := by kernel_rfl
  zs := rfl
/-- A TLB's rows, as they lie in memory. -/
def TlbAt (w : World) (t : Tlh) : Prop := ∃ (E : List Ety) (D : List Inv), t.l = E.length ∧ t.l ≤ 1000000000000000 ∧ RowsAt KE w t.f E ∧ t.m = D.length ∧ t.m ≤ 1000000000000000 ∧ RowsAt KI w t.g D ∧ (t.l ≤ t.c ∧ t.c ≤ maxLen ∧ (t.f = none → t.c = 0)) ∧ (t.m ≤ t.d ∧ t.d ≤ maxLen ∧ (t.g = none → t.d = 0))
section
variable {H : Type} {enc : TypeId × Value → H} {w : World} {base : Nat} {held : Bool}
theorem c_atr9 : Try.prog.cellsOf 34 = 6 := by kernel_rfl
theorem atr_cells9 {n : Nat} {cs : List Value} {y : DataW H × List MemPlace} (hlen : cs.length = 6) (h : DataW.trod enc Try.prog w base (fun _ => true) held n 34 cs = some y) :
    ∃ t : Atr, cs = (atrC t).toList := by
  match cs, hlen with
  | [v0, v1, v2, v3, v4, v5], _ =>
    obtain ⟨_, _, t0⟩ := part_of Try.underlying34 h 0 0 1 4 ⟨_, rfl, rfl, rfl⟩ c_bool
    obtain ⟨_, _, t1⟩ := part_of Try.underlying34 h 1 1 1 4 ⟨_, rfl, rfl, rfl⟩ c_bool
    obtain ⟨_, _, t2⟩ := part_of Try.underlying34 h 2 2 1 4 ⟨_, rfl, rfl, rfl⟩ c_bool
    obtain ⟨_, _, t3⟩ := part_of Try.underlying34 h 3 3 1 4 ⟨_, rfl, rfl, rfl⟩ c_bool
    obtain ⟨_, _, t4⟩ := part_of Try.underlying34 h 4 4 1 4 ⟨_, rfl, rfl, rfl⟩ c_bool
    obtain ⟨_, _, t5⟩ := part_of Try.underlying34 h 5 5 1 3 ⟨_, rfl, rfl, rfl⟩ c_int
    obtain ⟨r, h0⟩ := bool_cells t0
    obtain ⟨x1, h1⟩ := bool_cells t1
    obtain ⟨x2, h2⟩ := bool_cells t2
    obtain ⟨x3, h3⟩ := bool_cells t3
    obtain ⟨x4, h4⟩ := bool_cells t4
    obtain ⟨s, h5, _⟩ := int_cells t5
    simp at h0 h1 h2 h3 h4 h5
    exact ⟨⟨r, x1, x2, x3, x4, s⟩, by rw [h0, h1, h2, h3, h4, h5]; rfl⟩
theorem c_ent9 : Try.prog.cellsOf 36 = 14 := by kernel_rfl
theorem b_ent9 : Try.prog.bytesOf 36 = 80 := by kernel_rfl
theorem ent_cells9 {n : Nat} {cs : List Value} {y : DataW H × List MemPlace} (hlen : cs.length = 14) (h : DataW.trod enc Try.prog w base (fun _ => true) held n 36 cs = some y) :
    ∃ e : Ety, cs = (entC e).toList := by
  match cs, hlen with
  | [v0, v1, v2, v3, v4, v5, v6, v7, v8, v9, v10, v11, v12, v13], _ =>
    obtain ⟨_, _, t0⟩ := part_of Try.underlying36 h 0 0 1 3 ⟨_, rfl, rfl, rfl⟩ c_int
    obtain ⟨_, _, t1⟩ := part_of Try.underlying36 h 1 1 1 3 ⟨_, rfl, rfl, rfl⟩ c_int
    obtain ⟨_, _, t2⟩ := part_of Try.underlying36 h 2 2 1 3 ⟨_, rfl, rfl, rfl⟩ c_int
    obtain ⟨_, _, t3⟩ := part_of Try.underlying36 h 3 3 1 4 ⟨_, rfl, rfl, rfl⟩ c_bool
    obtain ⟨_, _, t4⟩ := part_of Try.underlying36 h 4 4 1 3 ⟨_, rfl, rfl, rfl⟩ c_int
    obtain ⟨_, _, t5⟩ := part_of Try.underlying36 h 5 5 1 3 ⟨_, rfl, rfl, rfl⟩ c_int
    obtain ⟨_, _, t6⟩ := part_of Try.underlying36 h 6 6 1 3 ⟨_, rfl, rfl, rfl⟩ c_int
    obtain ⟨_, _, t7⟩ := part_of Try.underlying36 h 7 7 1 3 ⟨_, rfl, rfl, rfl⟩ c_int
    obtain ⟨_, _, t8⟩ := part_of Try.underlying36 h 8 8 6 34 ⟨_, rfl, rfl, rfl⟩ c_atr9
    obtain ⟨x0, h0, _⟩ := int_cells t0
    obtain ⟨x1, h1, _⟩ := int_cells t1
    obtain ⟨x2, h2, _⟩ := int_cells t2
    obtain ⟨x3, h3⟩ := bool_cells t3
    obtain ⟨x4, h4, _⟩ := int_cells t4
    obtain ⟨x5, h5, _⟩ := int_cells t5
    obtain ⟨x6, h6, _⟩ := int_cells t6
    obtain ⟨x7, h7, _⟩ := int_cells t7
    obtain ⟨x8, h8⟩ := atr_cells9 (by rfl) t8
    simp [atrC] at h0 h1 h2 h3 h4 h5 h6 h7 h8
    obtain ⟨h8, h9, h10, h11, h12, h13⟩ := h8
    exact ⟨⟨x0, x1, x2, x3, x4, x5, x6, x7, x8⟩, by rw [h0, h1, h2, h3, h4, h5, h6, h7, h8, h9, h10, h11, h12, h13]; rfl⟩
theorem c_inv9 : Try.prog.cellsOf 32 = 4 := by kernel_rfl
theorem b_inv9 : Try.prog.bytesOf 32 = 32 := by kernel_rfl
theorem inv_cells9 {n : Nat} {cs : List Value} {y : DataW H × List MemPlace} (hlen : cs.length = 4) (h : DataW.trod enc Try.prog w base (fun _ => true) held n 32 cs = some y) :
    ∃ e : Inv, cs = (invC e).toList := by
  match cs, hlen with
  | [v0, v1, v2, v3], _ =>
    obtain ⟨_, _, t0⟩ := part_of Try.underlying32 h 0 0 1 3 ⟨_, rfl, rfl, rfl⟩ c_int
    obtain ⟨_, _, t1⟩ := part_of Try.underlying32 h 1 1 1 3 ⟨_, rfl, rfl, rfl⟩ c_int
    obtain ⟨_, _, t2⟩ := part_of Try.underlying32 h 2 2 1 3 ⟨_, rfl, rfl, rfl⟩ c_int
    obtain ⟨_, _, t3⟩ := part_of Try.underlying32 h 3 3 1 3 ⟨_, rfl, rfl, rfl⟩ c_int
    obtain ⟨x0, h0, _⟩ := int_cells t0
    obtain ⟨x1, h1, _⟩ := int_cells t1
    obtain ⟨x2, h2, _⟩ := int_cells t2
    obtain ⟨x3, h3, _⟩ := int_cells t3
    simp at h0 h1 h2 h3
    exact ⟨⟨x0, x1, x2, x3⟩, by rw [h0, h1, h2, h3]; rfl⟩
theorem c_ents9 : Try.prog.cellsOf 24 = 1 := by kernel_rfl
theorem c_invs9 : Try.prog.cellsOf 23 = 1 := by kernel_rfl
theorem c_tlbs9 : Try.prog.cellsOf 22 = 1 := by kernel_rfl
theorem c_tlb9 : Try.prog.cellsOf 43 = 2 := by kernel_rfl
theorem b_tlb9 : Try.prog.bytesOf 43 = 48 := by kernel_rfl
theorem slice_cap {t e : TypeId} {n : Nat} {f : Option Addr} {l c : Nat} {y : DataW H × List MemPlace} (ht : Try.prog.underlying t = some (.slice e)) (h : DataW.trod enc Try.prog w base (fun _ => true) held n t [.slice f l c] = some y) : c ≤ maxLen := by
  rcases open_slice ht h with ⟨hcs, _⟩ | ⟨a, len, cap, m, n, D, Pl, hcs, _, hl, hm, _⟩
  · simp at hcs
    omega
  · simp at hcs
    omega
theorem ents_cap9 {n : Nat} {c : Value} {y : DataW H × List MemPlace} (h : DataW.trod enc Try.prog w base (fun _ => true) held n 24 [c] = some y) (hz : Lite Try.prog 24 y.1) :
    ∃ (f : Option Addr) (l cap : Nat) (L : List Ety), c = .slice f l cap ∧ l = L.length ∧ l ≤ 1000000000000000 ∧ RowsAt KE w f L ∧ (l ≤ cap ∧ cap ≤ maxLen ∧ (f = none → cap = 0)) := by
  obtain ⟨f, l, cap, q, rfl, hc, hl, hq, hn⟩ := seq_nil entC (fun _ _ => True) ent0 Try.underlying24 c_ent9 (by decide) b_ent9 (by decide) (fun hl ht _ => by
    obtain ⟨a, rfl⟩ := ent_cells9 hl ht
    exact ⟨a, rfl, trivial⟩) h hz
  have := reach_small
  exact ⟨f, l, cap, (List.range l).map q, rfl, by simp, by omega, RowsAt.of_seq (K := KE) hq, hc, slice_cap Try.underlying24 h, hn⟩
theorem invs_cap9 {n : Nat} {c : Value} {y : DataW H × List MemPlace} (h : DataW.trod enc Try.prog w base (fun _ => true) held n 23 [c] = some y) (hz : Lite Try.prog 23 y.1) :
    ∃ (f : Option Addr) (l cap : Nat) (L : List Inv), c = .slice f l cap ∧ l = L.length ∧ l ≤ 1000000000000000 ∧ RowsAt KI w f L ∧ (l ≤ cap ∧ cap ≤ maxLen ∧ (f = none → cap = 0)) := by
  obtain ⟨f, l, cap, q, rfl, hc, hl, hq, hn⟩ := seq_nil invC (fun _ _ => True) inv0 Try.underlying23 c_inv9 (by decide) b_inv9 (by decide) (fun hl ht _ => by
    obtain ⟨a, rfl⟩ := inv_cells9 hl ht
    exact ⟨a, rfl, trivial⟩) h hz
  have := reach_small
  exact ⟨f, l, cap, (List.range l).map q, rfl, by simp, by omega, RowsAt.of_seq (K := KI) hq, hc, slice_cap Try.underlying23 h, hn⟩
theorem tlb_cells9 {n : Nat} {cs : List Value} {y : DataW H × List MemPlace} (hlen : cs.length = 2) (h : DataW.trod enc Try.prog w base (fun _ => true) held n 43 cs = some y) (hz : Lite Try.prog 43 y.1) :
    ∃ t : Tlh, cs = (tlhC t).toList ∧ TlbAt w t := by
  match cs, hlen with
  | [v0, v1], _ =>
    obtain ⟨_, _, r0, y0⟩ := part_lite Try.underlying43 h hz 0 0 1 24 ⟨_, rfl, rfl, rfl⟩ c_ents9
    obtain ⟨_, _, r1, y1⟩ := part_lite Try.underlying43 h hz 1 1 1 23 ⟨_, rfl, rfl, rfl⟩ c_invs9
    obtain ⟨f, l, c, E, e1, a1, a2, a3, a4⟩ := ents_cap9 r0 y0
    obtain ⟨g, m, d, D, e2, b1, b2, b3, b4⟩ := invs_cap9 r1 y1
    subst e1 e2
    exact ⟨⟨f, l, c, g, m, d⟩, rfl, E, D, a1, a2, a3, b1, b2, b3, a4, b4⟩
theorem tlbs_cap9 {n : Nat} {c : Value} {y : DataW H × List MemPlace} (h : DataW.trod enc Try.prog w base (fun _ => true) held n 22 [c] = some y) (hz : Lite Try.prog 22 y.1) :
    ∃ (f : Option Addr) (l cap : Nat) (L : List Tlh), c = .slice f l cap ∧ l = L.length ∧ l ≤ 1000000000000000 ∧ RowsAt KT w f L ∧ (∀ t ∈ L, TlbAt w t) := by
  obtain ⟨f, l, cap, q, rfl, hc, hl, hq, hn⟩ := seq_nil tlhC TlbAt tlh0 Try.underlying22 c_tlb9 (by decide) b_tlb9 (by decide) (fun hl ht hz => tlb_cells9 hl ht hz) h hz
  have := reach_small
  refine ⟨f, l, cap, (List.range l).map q, rfl, by simp, by omega, RowsAt.of_seq (K := KT) hq, fun t ht => ?_⟩
  obtain ⟨i, hi, rfl⟩ := List.mem_map.1 ht
  obtain ⟨b, o, _, _, h3⟩ := hq i (List.mem_range.1 hi)
  exact h3
/-- The argument of stage 10's laws. -/
theorem ask10 {n : Nat} {cs : List Value} {y : DataW H × List MemPlace} (hlen : cs.length = 3) (h : DataW.trod enc Try.prog w base (fun _ => true) held n 26 cs = some y) (hz : Lite Try.prog 26 y.1) :
    ∃ (ft g f : Option Addr) (nt ct m d l c : Nat) (T : List Tlh) (D : List Inv) (E : List Ety), cs = [.slice ft nt ct, .slice g m d, .slice f l c] ∧ nt = T.length ∧ nt ≤ 1000000000000000 ∧ RowsAt KT w ft T ∧ (∀ t ∈ T, TlbAt w t) ∧
      (m = D.length ∧ m ≤ 1000000000000000 ∧ RowsAt KI w g D ∧ (m ≤ d ∧ d ≤ maxLen ∧ (g = none → d = 0))) ∧ (l = E.length ∧ l ≤ 1000000000000000 ∧ RowsAt KE w f E) := by
  match cs, hlen with
  | [v0, v1, v2], _ =>
    obtain ⟨_, _, r0, y0⟩ := part_lite Try.underlying26 h hz 0 0 1 22 ⟨_, rfl, rfl, rfl⟩ c_tlbs9
    obtain ⟨_, _, r1, y1⟩ := part_lite Try.underlying26 h hz 1 1 1 23 ⟨_, rfl, rfl, rfl⟩ c_invs9
    obtain ⟨_, _, r2, y2⟩ := part_lite Try.underlying26 h hz 2 2 1 24 ⟨_, rfl, rfl, rfl⟩ c_ents9
    obtain ⟨ft, nt, ct, T, e1, a1, a2, a3, a4⟩ := tlbs_cap9 r0 y0
    obtain ⟨g, m, d, D, e2, b1, b2, b3, b4⟩ := invs_cap9 r1 y1
    obtain ⟨f, l, c, E, e3, c1, c2, c3, _⟩ := ents_cap9 r2 y2
    subst e1 e2 e3
    exact ⟨ft, g, f, nt, ct, m, d, l, c, T, D, E, rfl, a1, a2, a3, a4, ⟨b1, b2, b3, b4⟩, c1, c2, c3⟩
end
theorem num10_any (n : Int) (w : World) :
    Calls Try.prog 18 #[.int .i64 n] w fun e w' => e = .returned (.int .i64 n) ∧ w = w' := by
  go_enter Try.func18, Try.ntmps18
  go_wp2
  go_ret
  exact ⟨rfl, rfl⟩
theorem weight9_any (f g : Option Addr) (l c m d : Nat) (w : World) (hl : l ≤ 1000000000000000) (hm : m ≤ 1000000000000000) :
    Calls Try.prog 37 #[.agg #[.slice f l c, .slice g m d]] w fun r w' => r = .returned (.int .i64 ((l : Int) + (m : Int))) ∧ Below w.heap.size w w' := by
  have hw : IntKind.i64.wrap ((l : Int) + (m : Int)) = (l : Int) + (m : Int) := IntWalk.i64_in _ (by omega)
  go_enter Try.func37, Try.ntmps37
  go_wp2
  go_ret
  exact ⟨rfl, by go_grown⟩
/-- How much the first TLBs are. -/
def wts : List Tlh → Nat → Int
  | [], _ => 0
  | _, 0 => 0
  | x :: T, k + 1 => ((x.l : Int) + (x.m : Int)) + wts T k
theorem wts_zero (T : List Tlh) : wts T 0 = 0 := by cases T <;> rfl
theorem wts_next {T : List Tlh} {k : Nat} {x : Tlh} (h : T[k]? = some x) : wts T (k + 1) = wts T k + ((x.l : Int) + (x.m : Int)) := by
  induction T generalizing k with
  | nil => simp at h
  | cons y T ih =>
    cases k with
    | zero =>
      simp only [List.getElem?_cons_zero, Option.some.injEq] at h
      subst h
      cases T <;> simp [wts]
    | succ k =>
      have := ih (k := k) (by simpa using h)
      simp only [wts]
      rw [this]
      omega
theorem wts_nonneg (T : List Tlh) (k : Nat) : 0 ≤ wts T k := by
  induction T generalizing k with
  | nil => simp [wts]
  | cons y T ih =>
    cases k with
    | zero => simp [wts]
    | succ k => have := ih k; simp only [wts]; omega
theorem wts_mem {T : List Tlh} {n : Nat} {x : Tlh} (hn : n = T.length) (h : x ∈ T) : (x.l : Int) + (x.m : Int) ≤ wts T n := by
  subst hn
  induction T with
  | nil => cases h
  | cons y T ih =>
    simp only [List.length_cons, wts]
    rcases List.mem_cons.1 h with rfl | h
    · have := wts_nonneg T T.length
      omega
    · have := ih h
      omega
/-- What heavy tells. -/
def HeavyEnd (w : World) (nt m l : Nat) (T : List Tlh) (r : Ending) (w' : World) : Prop :=
  ∃ hv, r = .returned (.bool hv) ∧ (hv = false → nt ≤ 600 ∧ m ≤ 600 ∧ l ≤ 600 ∧ ∀ x ∈ T, x.l ≤ 600 ∧ x.m ≤ 600) ∧ Below w.heap.size w w'
/-- The entry of wakes. -/
def ewk10 : Ety := ⟨1, 0, 0, false, 3, 0, 0, 3, ⟨true, false, false, false, false, 0⟩⟩
set_option maxRecDepth 100000 in
set_option maxHeartbeats 3200000 in
theorem heavyC (ft g f : Option Addr) (nt ct m d l c : Nat) (T : List Tlh) (w : World) (hn : nt = T.length) (hn2 : nt ≤ 1000000000000000) (hm : m ≤ 1000000000000000) (hl : l ≤ 1000000000000000) (hT : RowsAt KT w ft T) (hM : ∀ x ∈ T, x.l ≤ 1000000000000000 ∧ x.m ≤ 1000000000000000) :
    Calls Try.prog 13 #[.agg #[.slice ft nt ct, .slice g m d, .slice f l c]] w (HeavyEnd w nt m l T) := by
  have HT := Lib.hid hT
  have HN := Lib.hid hn
  have HM := Lib.hid hM
  obtain ⟨s1, hs1⟩ : ∃ s1, s1 = (nt : Int) + (m : Int) := ⟨_, rfl⟩
  have hw1 : IntKind.i64.wrap ((nt : Int) + (m : Int)) = s1 := by rw [hs1]; exact IntWalk.i64_in _ (by omega)
  obtain ⟨s2, hs2⟩ : ∃ s2, s2 = s1 + (l : Int) := ⟨_, rfl⟩
  have hw2 : IntKind.i64.wrap (s1 + (l : Int)) = s2 := by rw [hs2]; exact IntWalk.i64_in _ (by omega)
  have HV0 := Lib.hid (show s2 + wts T nt ≤ 600 → nt ≤ 600 ∧ m ≤ 600 ∧ l ≤ 600 ∧ ∀ x ∈ T, x.l ≤ 600 ∧ x.m ≤ 600 from fun h => by
    have h1 := wts_nonneg T nt
    refine ⟨by omega, by omega, by omega, fun x hx => ?_⟩
    have := wts_mem hn hx
    omega)
  have hr2 : 0 ≤ s2 ∧ s2 ≤ 3000000000000000 := by omega
  clear hT hn hM hs1 hs2
  have htw : w.heap.size ≤ w.heap.size := Nat.le_refl _
  have B0 := Lib.hid (Below.refl w.heap.size w)
  go_enter Try.func13, Try.ntmps13
  go_upto_region 1 with fail
  have P1 := Lib.hid ((BoxAt.newAt (w) #[.slice ft nt ct, .slice g m d, .slice f l c] 26 (w.heap.size) (by first | omega | (simp; done) | (simp; omega))))
  have B1 := Lib.hid ((bel_alloc B0.out (.cells #[.slice ft nt ct, .slice g m d, .slice f l c] 26)))
  obtain ⟨g1, hg1⟩ : ∃ g1, g1 = w.heap.size := ⟨_, rfl⟩
  obtain ⟨W1, hW1⟩ : ∃ W1, W1 = (w).alloc (.cells #[.slice ft nt ct, .slice g m d, .slice f l c] 26) := ⟨_, rfl⟩
  have hs1 : g1 + 1 ≤ W1.heap.size := by rw [hW1, hg1]; simp
  rw [← hW1] at P1 B1 ⊢
  have hb1 : w.heap.size ≤ g1 := by omega
  rw [← hg1] at P1 ⊢
  clear hg1
  clear hW1 B0
  have Pc0 := P1.out.get 0 (.slice ft nt ct) rfl
  have Pc1 := P1.out.get 1 (.slice g m d) rfl
  have Pc2 := P1.out.get 2 (.slice f l c) rfl
  have HNI := Lib.hid (show s2 = s2 + wts T 0 ∧ 0 ≤ s2 ∧ s2 ≤ 4000000000000000 from ⟨by rw [wts_zero]; omega, by omega, by omega⟩)
  go_wp2
  clear Pc0 Pc1 Pc2
  go_loopw [4, 3] (fun i i0 wr => ∃ (k : Nat) (ni : Int), k ≤ nt ∧ i = .int .i64 k ∧ i0 = .int .i64 ni ∧ Hid (BoxAt wr (g1) #[.slice ft nt ct, .slice g m d, .slice f l c] 26) ∧ Hid (Below w.heap.size w wr) ∧ Hid (ni = s2 + wts T k ∧ 0 ≤ ni ∧ ni ≤ 4000000000000000)) (fun i _ _ => nt - (intOf i).toNat)
  case atStart => exact ⟨0, s2, by omega, rfl, rfl, P1.out, B1.out, HNI⟩
  case round =>
    clear P1 B1 HNI
    obtain ⟨k, ni, hkk, rfl, rfl, Pr, Br, HNI⟩ := hrel
    obtain ⟨mr, hmr⟩ : ∃ mr, mr = wr.heap.size := ⟨_, rfl⟩
    have hgPr : g1 + 1 ≤ mr := by rw [hmr]; exact Pr.out.lt
    have hgwr : w.heap.size ≤ mr := by rw [hmr]; exact Br.out.size
    have hsr : mr ≤ wr.heap.size := by omega
    clear hmr
    by_cases hltk : k < nt
    · have ik0k : (0 : Int) ≤ (k : Int) := by omega
      have ik1k : (k : Int) < (nt : Int) := by omega
      have ikwk : IntKind.i64.wrap ((k : Int) + 1) = (k : Int) + 1 := IntWalk.i64_in _ (by omega)
      obtain ⟨x, hx⟩ := rows_some HN.out hltk
      obtain ⟨b, o, rfl, hr0⟩ := HT.out k x hx
      have HRX := Lib.hid (show RowAt w b (o + k * 2) 2 #[.slice x.f x.l x.c, .slice x.g x.m x.d] from hr0)
      have hbk : b < w.heap.size := hr0.lt
      clear hr0
      have hxm := HM.out x (List.mem_of_getElem? hx)
      have HW := Lib.hid (fun W => weight9_any x.f x.g x.l x.c x.m x.d W hxm.1 hxm.2)
      have hwt : wts T (k + 1) = wts T k + ((x.l : Int) + (x.m : Int)) := wts_next hx
      have hlm : 0 ≤ (x.l : Int) + (x.m : Int) ∧ (x.l : Int) + (x.m : Int) ≤ 2000000000000000 := by have h1 := hxm.1; have h2 := hxm.2; omega
      obtain ⟨lm, hlm0⟩ : ∃ lm, lm = (x.l : Int) + (x.m : Int) := ⟨_, rfl⟩
      rw [← hlm0] at HW hwt hlm
      clear hlm0 hx hxm
      have hn0 := HNI.out.2
      by_cases h20 : ni < 1048576
      rotate_left
      · have d20 : decide (ni < 1048576) = false := decide_eq_false h20
        have g600 : decide (600 < ni) = true := decide_eq_true (by omega)
        have Pc0 := Pr.out.get 0 (.slice (some ⟨b, o, none⟩) nt ct) rfl
        go_wp2
        go_ret
        unfold HeavyEnd
        exact ⟨true, rfl, fun h => absurd h (by decide), Br.out⟩
      have d20 : decide (ni < 1048576) = true := decide_eq_true h20
      have hwa : IntKind.i64.wrap (ni + lm) = ni + lm := IntWalk.i64_in _ (by omega)
      have HNI := Lib.hid (show ni + lm = s2 + wts T (k + 1) ∧ 0 ≤ ni + lm ∧ ni + lm ≤ 4000000000000000 from ⟨by have := HNI.out.1; omega, by omega, by omega⟩)
      have Pc0 := Pr.out.get 0 (.slice (some ⟨b, o, none⟩) nt ct) rfl
      have yX := (HRX.out.below Br.out)
      have yX0 := yX.get0 (.slice x.f x.l x.c) (by decide) rfl
      have yX1 := yX.get 1 (.slice x.g x.m x.d) (by decide) rfl
      clear yX
      go_wp2_with fail
      refine (HW.out _).mono ?_
      rintro e w2 ⟨rfl, hb2⟩
      have hz2 := hb2.size
      have P2 := Lib.hid (Pr.out.below hb2)
      have B2 := Lib.hid (bel_trans Br.out hb2)
      skip
      have hs2 : mr ≤ w2.heap.size := by omega
      clear Pc0 yX0 yX1
      clear Pr Br hsr hb2 hz2
      go_wp2
      go_roundw
      case rel => exact ⟨k + 1, (ni + lm), by omega, by go_num, rfl, P2.out, B2.out, HNI⟩
      case measure => simp [intOf]; omega
    · have h0 := HNI.out.2
      obtain ⟨hv, hhv⟩ : ∃ hv, hv = decide (600 < ni) := ⟨_, rfl⟩
      have hhv2 := hhv.symm
      clear hhv
      have Pc0 := Pr.out.get 0 (.slice ft nt ct) rfl
      go_wp2
      go_ret
      unfold HeavyEnd
      refine ⟨hv, rfl, fun h => ?_, Br.out⟩
      rw [h] at hhv2
      have h6 : ¬ 600 < ni := of_decide_eq_false hhv2
      have e1 : nt = k := by omega
      have h7 := HNI.out.1
      exact HV0.out (by rw [e1]; omega)
set_option maxRecDepth 100000 in
set_option maxHeartbeats 3200000 in
theorem wakes10_any (w : World) :
    Calls Try.prog 19 #[] w fun q w' => q = .returned (.bool true) ∧ Below w.heap.size w w' := by
  have h0 := fun W => takesC ⟨6, 0, 0, 3⟩ ewk10 W
  have h1 := fun W => takesC ⟨3, 0, 0, 0⟩ ewk10 W
  rw [show takesR ⟨6, 0, 0, 3⟩ ewk10 = (false, 0) from by decide] at h0
  rw [show takesR ⟨3, 0, 0, 0⟩ ewk10 = (true, 0) from by decide] at h1
  simp only [entV, entC, invV, invC, ewk10] at h0 h1
  have HK0 := Lib.hid h0
  have HK1 := Lib.hid h1
  clear h0 h1
  have htw : w.heap.size ≤ w.heap.size := Nat.le_refl _
  have B0 := Lib.hid (Below.refl w.heap.size w)
  go_enter Try.func19, Try.ntmps19
  go_upto_region 2 with fail
  have E1 := Lib.hid ((BoxAt.newAt (w) #[.int .i64 1, .int .i64 0, .int .i64 0, .bool false, .int .i64 3, .int .i64 0, .int .i64 0, .int .i64 3, .bool true, .bool false, .bool false, .bool false, .bool false, .int .i64 0] 36 (w.heap.size) (by first | omega | (simp; done) | (simp; omega))))
  have B1 := Lib.hid ((bel_alloc B0.out (.cells #[.int .i64 1, .int .i64 0, .int .i64 0, .bool false, .int .i64 3, .int .i64 0, .int .i64 0, .int .i64 3, .bool true, .bool false, .bool false, .bool false, .bool false, .int .i64 0] 36)))
  obtain ⟨g1, hg1⟩ : ∃ g1, g1 = w.heap.size := ⟨_, rfl⟩
  obtain ⟨W1, hW1⟩ : ∃ W1, W1 = (w).alloc (.cells #[.int .i64 1, .int .i64 0, .int .i64 0, .bool false, .int .i64 3, .int .i64 0, .int .i64 0, .int .i64 3, .bool true, .bool false, .bool false, .bool false, .bool false, .int .i64 0] 36) := ⟨_, rfl⟩
  have hs1 : g1 + 1 ≤ W1.heap.size := by rw [hW1, hg1]; simp
  rw [← hW1] at E1 B1 ⊢
  have hb1 : w.heap.size ≤ g1 := by omega
  rw [← hg1] at E1 ⊢
  clear hg1
  clear hW1 B0
  have Ec0 := E1.out.get 0 (.int .i64 1) rfl
  have Ec1 := E1.out.get 1 (.int .i64 0) rfl
  have Ec2 := E1.out.get 2 (.int .i64 0) rfl
  have Ec3 := E1.out.get 3 (.bool false) rfl
  have Ec4 := E1.out.get 4 (.int .i64 3) rfl
  have Ec5 := E1.out.get 5 (.int .i64 0) rfl
  have Ec6 := E1.out.get 6 (.int .i64 0) rfl
  have Ec7 := E1.out.get 7 (.int .i64 3) rfl
  have Ec8 := E1.out.get 8 (.bool true) rfl
  have Ec9 := E1.out.get 9 (.bool false) rfl
  have Ec10 := E1.out.get 10 (.bool false) rfl
  have Ec11 := E1.out.get 11 (.bool false) rfl
  have Ec12 := E1.out.get 12 (.bool false) rfl
  have Ec13 := E1.out.get 13 (.int .i64 0) rfl
  go_wp2_with fail
  refine (HK0.out _).mono ?_
  rintro e w2 ⟨rfl, hb2⟩
  have hz2 := hb2.size
  have E2 := Lib.hid (E1.out.below hb2)
  have B2 := Lib.hid (bel_trans B1.out hb2)
  skip
  have hs2 : g1 + 1 ≤ w2.heap.size := by omega
  clear Ec0 Ec1 Ec2 Ec3 Ec4 Ec5 Ec6 Ec7 Ec8 Ec9 Ec10 Ec11 Ec12 Ec13
  clear E1 B1 hs1 hb2 hz2
  have Ec0 := E2.out.get 0 (.int .i64 1) rfl
  have Ec1 := E2.out.get 1 (.int .i64 0) rfl
  have Ec2 := E2.out.get 2 (.int .i64 0) rfl
  have Ec3 := E2.out.get 3 (.bool false) rfl
  have Ec4 := E2.out.get 4 (.int .i64 3) rfl
  have Ec5 := E2.out.get 5 (.int .i64 0) rfl
  have Ec6 := E2.out.get 6 (.int .i64 0) rfl
  have Ec7 := E2.out.get 7 (.int .i64 3) rfl
  have Ec8 := E2.out.get 8 (.bool true) rfl
  have Ec9 := E2.out.get 9 (.bool false) rfl
  have Ec10 := E2.out.get 10 (.bool false) rfl
  have Ec11 := E2.out.get 11 (.bool false) rfl
  have Ec12 := E2.out.get 12 (.bool false) rfl
  have Ec13 := E2.out.get 13 (.int .i64 0) rfl
  go_wp2_with fail
  refine (HK1.out _).mono ?_
  rintro e w3 ⟨rfl, hb3⟩
  have hz3 := hb3.size
  have E3 := Lib.hid (E2.out.below hb3)
  have B3 := Lib.hid (bel_trans B2.out hb3)
  skip
  have hs3 : g1 + 1 ≤ w3.heap.size := by omega
  clear Ec0 Ec1 Ec2 Ec3 Ec4 Ec5 Ec6 Ec7 Ec8 Ec9 Ec10 Ec11 Ec12 Ec13
  clear E2 B2 hs2 hb3 hz3
  go_wp2_with fail
  refine (num10_any _ _).mono ?_
  rintro e w4 ⟨rfl, rfl⟩
  go_wp2_with fail
  refine (num10_any _ _).mono ?_
  rintro e w5 ⟨rfl, rfl⟩
  go_wp2
  all_goals
    go_ret
    exact ⟨rfl, B3.out⟩
end Go.Proofs.Ytjohnpbfdpmajaa
