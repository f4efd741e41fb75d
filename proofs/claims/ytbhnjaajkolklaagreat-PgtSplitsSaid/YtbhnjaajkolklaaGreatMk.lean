/- Stage 16's laws: the argument opened; Heavy, num, EqNumbers, EqMaps, wakes: contracts. -/
import Derived.Test.YtbhnjaajkolklaaGreatMj
import Derived.Test.YtbhnjaajkolklaaGreatSq
import Derived.Test.YtbhnjaajkolklaaGreatDy
set_option linter.all false
namespace Go.Proofs.YtbhnjaajkolklaaGreat
open Go.ChangeShapes Go.WideShapes Go.ChangeAt Go.RowKit Go.Deep

/-- An act of stage 16. -/
structure A16 where
  q : Int
  mid : Int
  o : Int
  d : Dsc
  f : Option Addr
  m : Nat
  c : Nat
def actC (a : A16) : Array Value := #[.int .i64 a.q, .int .i64 a.mid, .int .i64 a.o, .int .i64 a.d.k, .int .i64 a.d.f, .bool a.d.r, .bool a.d.w, .bool a.d.x, .bool a.d.a, .bool a.d.n, .int .i64 a.d.s, .int .i64 a.d.o, .slice a.f a.m a.c]
def KAc : RowK A16 where
  ts := 26
  t := 39
  N := 13
  B := 88
  z := .agg #[.int .i64 0, .int .i64 0, .int .i64 0, .int .i64 0, .int .i64 0, .bool false, .bool false, .bool false, .bool false, .bool false, .int .i64 0, .int .i64 0, .slice none 0 0]
  V := actC
  pos := by decide
  small := by decide
  size := fun _ => rfl
  one := fun q v hv => by
    simp [actC] at hv
    rcases hv with rfl | rfl | rfl | rfl | rfl | rfl | rfl | rfl | rfl | rfl | rfl | rfl | rfl <;> rfl
  under := Tryz.underlying26
  info := by kernel_rfl
  zs := rfl
/-- A script of stage 16. -/
structure S16 where
  f : Option Addr
  l : Nat
  c : Nat
  X : Nat → BitVec 64
  root : Int
  g : Option Addr
  k : Nat
  F : List Int
  h : Option Addr
  e : Nat
  L : List A16
def s16C (q : S16) : List Value := [.slice q.f q.l q.c, .int .i64 q.root, .slice q.g q.F.length q.k, .slice q.h q.L.length q.e]
structure Ok16 (w : World) (q : S16) : Prop where
  X : WordsAt w q.f q.l q.X
  lc : q.l ≤ q.c
  l1 : q.l ≤ 1000000000000000
  F : IntsAt w q.g q.F
  n1 : q.F.length ≤ 1000000000000000
  nk : q.F.length ≤ q.k
  k0 : q.g = none → q.k = 0
  L : RowsAt KAc w q.h q.L
  m1 : q.L.length ≤ 1000000000000000
  ms : ∀ a ∈ q.L, a.m ≤ 1000000000000000
theorem rows_ints {w : World} {f : Option Addr} {L : List Int} (h : RowsAt KMz w f L) : IntsAt w f L := fun j hj => by
  obtain ⟨b, o, hf, hr⟩ := h j L[j] (List.getElem?_eq_getElem hj)
  have e : L.getD j 0 = L[j] := by simp [List.getD, hj]
  have hc := hr.get0 (.int .i64 L[j]) (by decide) rfl
  refine ⟨b, o, hf, ?_⟩
  show w.cell? ⟨b, o + j, none⟩ = some (.int .i64 (L.getD j 0))
  rw [e]
  rw [show j * KMz.N = j from Nat.mul_one j] at hc
  exact hc
section
variable {H : Type} {enc : TypeId × Value → H} {w : World} {base : Nat} {held : Bool}
theorem c_act16 : Tryz.prog.cellsOf 39 = 13 := by kernel_rfl
theorem b_act16 : Tryz.prog.bytesOf 39 = 88 := by kernel_rfl
theorem c_desc16 : Tryz.prog.cellsOf 37 = 9 := by kernel_rfl
theorem c_nums16 : Tryz.prog.cellsOf 25 = 1 := by kernel_rfl
theorem c_acts16 : Tryz.prog.cellsOf 26 = 1 := by kernel_rfl
theorem c_words16 : Tryz.prog.cellsOf 22 = 1 := by kernel_rfl
theorem act_cells {n : Nat} {cs : List Value} {y : DataW H × List MemPlace} (hlen : cs.length = 13) (h : DataW.trod enc Tryz.prog w base (fun _ => true) held n 39 cs = some y) (hz : Lite Tryz.prog 39 y.1) :
    ∃ a : A16, cs = (actC a).toList ∧ a.m ≤ 1000000000000000 := by
  match cs, hlen with
  | [v0, v1, v2, v3, v4, v5, v6, v7, v8, v9, v10, v11, v12], _ =>
    obtain ⟨_, _, t0⟩ := part_of Tryz.underlying39 h 0 0 1 3 ⟨_, rfl, rfl, rfl⟩ c_int
    obtain ⟨_, _, t1⟩ := part_of Tryz.underlying39 h 1 1 1 3 ⟨_, rfl, rfl, rfl⟩ c_int
    obtain ⟨_, _, t2⟩ := part_of Tryz.underlying39 h 2 2 1 3 ⟨_, rfl, rfl, rfl⟩ c_int
    obtain ⟨_, _, t3⟩ := part_of Tryz.underlying39 h 3 3 9 37 ⟨_, rfl, rfl, rfl⟩ c_desc16
    obtain ⟨_, _, t4, z4⟩ := part_lite Tryz.underlying39 h hz 4 12 1 25 ⟨_, rfl, rfl, rfl⟩ c_nums16
    obtain ⟨x0, h0, _⟩ := int_cells t0
    obtain ⟨x1, h1, _⟩ := int_cells t1
    obtain ⟨x2, h2, _⟩ := int_cells t2
    obtain ⟨d, h3, _⟩ := desc_cells (by rfl) t3
    obtain ⟨f, m, c, _, h4, hm, _⟩ := nums_cap t4 z4
    simp at h0 h1 h2 h3 h4
    obtain ⟨h3, h5, h6, h7, h8, h9, h10, h11, h12⟩ := h3
    exact ⟨⟨x0, x1, x2, d, f, m, c⟩, by rw [h0, h1, h2, h3, h5, h6, h7, h8, h9, h10, h11, h12, h4]; rfl, hm⟩
theorem script16 {n : Nat} {cs : List Value} {y : DataW H × List MemPlace} (hlen : cs.length = 4) (h : DataW.trod enc Tryz.prog w base (fun _ => true) held n 28 cs = some y) (hz : Lite Tryz.prog 28 y.1) :
    ∃ q : S16, cs = s16C q ∧ Ok16 w q := by
  match cs, hlen with
  | [v0, v1, v2, v3], _ =>
    obtain ⟨_, _, rM, yM⟩ := part_lite Tryz.underlying28 h hz 0 0 1 24 ⟨_, rfl, rfl, rfl⟩ cells_mem
    obtain ⟨_, _, r1⟩ := part_of Tryz.underlying28 h 1 1 1 3 ⟨_, rfl, rfl, rfl⟩ c_int
    obtain ⟨_, _, rG, yG⟩ := part_lite Tryz.underlying28 h hz 2 2 1 25 ⟨_, rfl, rfl, rfl⟩ c_nums16
    obtain ⟨_, _, rA, yA⟩ := part_lite Tryz.underlying28 h hz 3 3 1 26 ⟨_, rfl, rfl, rfl⟩ c_acts16
    obtain ⟨_, _, rW, yW⟩ := part_lite Tryz.underlying24 rM yM 0 0 1 22 ⟨_, rfl, rfl, rfl⟩ c_words16
    obtain ⟨f, l, c, X, e0, a1, a2, a3⟩ := words_cap rW yW
    obtain ⟨root, e1, _⟩ := int_cells r1
    obtain ⟨g, n, k, F, e2, b1, b2, b3, b4⟩ := seq_nil KMz.V (fun _ _ => True) 0 Tryz.underlying25 cells_int (by decide) bytes_int (by decide) (fun hl ht _ => by
      obtain ⟨a, rfl, _⟩ := int_cells ht
      exact ⟨a, rfl, trivial⟩) rG yG
    obtain ⟨h', m, e, q, e3, d1, d2, d3, d4⟩ := seq_nil actC (fun _ a => a.m ≤ 1000000000000000) ⟨0, 0, 0, dz, none, 0, 0⟩ Tryz.underlying26 c_act16 (by decide) b_act16 (by decide) (fun hl ht hz => act_cells hl ht hz) rA yA
    have := reach_small
    have hF := RowsAt.of_seq (K := KMz) b3
    have hL := RowsAt.of_seq (K := KAc) d3
    simp at e0 e1 e2 e3
    subst e0 e1 e2 e3
    have hln : ((List.range n).map F).length = n := by simp
    have hlm : ((List.range m).map q).length = m := by simp
    refine ⟨⟨f, l, c, X, root, g, k, (List.range n).map F, h', e, (List.range m).map q⟩, by unfold s16C; simp only [hln, hlm], ⟨a3, a2, a1, rows_ints hF, by rw [hln]; omega, by rw [hln]; exact b1, b4, hL, by rw [hlm]; omega, fun a ha => ?_⟩⟩
    obtain ⟨i, hi, rfl⟩ := List.mem_map.1 ha
    obtain ⟨_, _, _, _, hm⟩ := d3 i (List.mem_range.1 hi)
    exact hm
end
/-- How much a script weighs. -/
def hvS : List A16 → Int → Int
  | [], n => n
  | a :: L, n => if n < 1048576 then hvS L (n + 1 + a.m) else n
theorem hvS_len : ∀ (L : List A16) (n : Int), hvS L n ≤ 3000 → n + L.length ≤ 3000
  | [], n, h => by simpa [hvS] using h
  | a :: L, n, h => by
    unfold hvS at h
    split at h
    · have := hvS_len L (n + 1 + a.m) h
      simp only [List.length_cons]
      omega
    · omega
def heavyB (q : S16) : Bool := decide (hvS q.L ((q.l : Int) + q.F.length) > 3000)
theorem heavy_no {q : S16} (h : heavyB q = false) : q.l ≤ 3000 ∧ q.F.length ≤ 3000 ∧ q.L.length ≤ 3000 := by
  unfold heavyB at h
  have := hvS_len q.L ((q.l : Int) + q.F.length) (by simp at h; omega)
  omega
theorem EndMF.post {ft : List Nat} {w0 W w' : World} {k : Nat} {pre : BL} {E : Env} {e : Ending} {a : AnsM} (h : EndMF W a e w') (hk : Keep ft w0 W) :
    ∃ q, GPost ft w0 k (fun E => .tuple #[.agg #[.slice (E.f k) a.n (E.b k)], .slice (E.f (k + 1)) a.F.length (E.b (k + 1)), .int .i64 a.e]) pre [] [fun E => OwnP 75 1 (E.f k) a.n (E.b k) (wcells a.X a.n), fun E => OwnP 3 1 (E.f (k + 1)) a.F.length (E.b (k + 1)) (icells a.F)] E W e w' q := by
  obtain ⟨f, c, g, d, he, h1, h2, hb⟩ := h
  refine GPost.own2 hk hb (by decide) h1 h2 ?_
  have e1 : ((E.set k (c, f)).set (k + 1) (d, g)).e k = (c, f) := by rw [set_ne _ _ _ _ (by omega), set_at]
  have e2 : ((E.set k (c, f)).set (k + 1) (d, g)).f k = f := by unfold Env.f; rw [e1]
  have e3 : ((E.set k (c, f)).set (k + 1) (d, g)).b k = c := by unfold Env.b; rw [e1]
  rw [he, e2, e3, set_f, set_c]
theorem EndMD.post {ft : List Nat} {w0 W w' : World} {k : Nat} {pre : BL} {E : Env} {e : Ending} {a : (Nat × (Nat → BitVec 64)) × Dsc × Int} (h : EndMD W a e w') (hk : Keep ft w0 W) :
    ∃ q, GPost ft w0 k (fun E => .tuple #[.agg #[.slice (E.f k) a.1.1 (E.b k)], dscV a.2.1, .int .i64 a.2.2]) pre [] [fun E => OwnP 75 1 (E.f k) a.1.1 (E.b k) (wcells a.1.2 a.1.1)] E W e w' q := by
  obtain ⟨f, c, he, h1, h2⟩ := h
  exact GPost.own1 hk h2 h1 (by rw [he, set_f, set_c])
theorem makeW_opc {ft : List Nat} {w0 W : World} {k n : Nat} {pre : BL} {E : Env} {ρ : Operand → Value} {o : Oper} {x y : Operand} (ho : o.op = .makeSlice 22 x y) (hx : [ρ x, ρ y] = [.int .i64 (n : Int), .int .i64 (n : Int)]) (hk : Keep ft w0 W) (hn : n ≤ 100000) :
    ∃ r q w', (execOp ρ o).run Tryz.prog W = .ok (.value r) w' ∧ GPost ft w0 k (fun E => .slice (E.f k) n (E.b k)) pre [] [fun E => OwnP 75 1 (E.f k) n (E.b k) (wcells (fun _ => 0#64) n)] E W (.returned r) w' q := by
  obtain ⟨i, hi0, hi⟩ := Option.map_eq_some_iff.1 (show (Tryz.prog.info? 75).map (fun i => (i.zero, i.size, i.bytes)) = some (some (.int .u64 0), 1, 8) from infoW)
  obtain ⟨hz, hs, hb⟩ : i.zero = some (.int .u64 0) ∧ i.size = 1 ∧ i.bytes = 8 := by
    simp only [Prod.mk.injEq] at hi
    exact hi
  have hr := run_make (P := Tryz.prog) W 22 75 i (.int .u64 0) Tryz.underlying22 hi0 hz .i64 .i64 (n : Int) (n : Int) (by omega) (Int.le_refl _) (by rw [hb]; omega) (by omega)
  simp only [Int.toNat_natCast, hs, Nat.mul_one] at hr
  simp only [List.cons.injEq, and_true] at hx
  have hc : (madeCells (Value.int .u64 0).cells n).toList = wcells (fun _ => 0#64) n := zeros_cells n
  have hown : (W.alloc (.cells (madeCells (Value.int .u64 0).cells n) 75)).ownsRow W.heap.size 75 1 (.slice (some ⟨W.heap.size, 0, none⟩) n n) n (wcells (fun _ => 0#64) n) :=
    ⟨by rw [wcells_length, Nat.mul_one], .inr ⟨W.heap.size, n, _, rfl, Nat.le_refl _, heap_alloc_new W _, Nat.le_refl _, by unfold maxLen; omega, by
      have := congrArg List.length hc
      rw [wcells_length] at this
      simpa using this, by rw [Nat.mul_one, hc, List.take_of_length_le (by rw [wcells_length]; exact Nat.le_refl _)]⟩⟩
  obtain ⟨q, hq⟩ := GPost.own1 (ft := ft) (w0 := w0) (k := k) (pre := pre) (E := E) (v := fun E => .slice (E.f k) n (E.b k)) (e := .returned (.slice (some ⟨W.heap.size, 0, none⟩) n n)) hk (bel_alloc (Below.refl _ _) _) hown (by rw [set_f, set_c])
  refine ⟨_, q, _, ?_, hq⟩
  unfold execOp
  simp only [ho, hx.1, hx.2, Sem.run_bind, hr, Result.andThen_ok, Sem.run_pure]
theorem ints_lit {ft : List Nat} {w0 W : World} {b : Nat} {F : List Int} {cs : List Value} (h : (⟨b, 0, 3, cs, .own⟩ : Bx).Holds ft w0 W) (hc : cs = icells F) : IntsAt W (some ⟨b, 0, none⟩) F := fun j hj => by
  subst hc
  have hB : BoxAt W b (icells F).toArray 3 := ⟨h.2.2⟩
  refine ⟨b, 0, rfl, ?_⟩
  rw [Nat.zero_add]
  exact hB.get j _ (by simpa using icells_get F j hj)
/-- What each law wakes. -/
def ansW : AnsM := mapA 64 (fun _ => 0#64) (wayA 64 (fun _ => 0#64) 0 5 3) [1, 2, 3, 4] 5 ⟨2, 7, true, false, false, false, false, 0, 0⟩
def wayW : WayR := wayA 64 ansW.X 0 5 3
theorem ansW_n : ansW.n = 64 := by decide +kernel
theorem ansW_F : ansW.F = [4] := by decide +kernel
theorem ansW_e : ansW.e = 0 := by decide +kernel
theorem wayW_e : (getA wayW).2.2 = 0 := by decide +kernel
theorem wayW_l : (getA wayW).2.1 = 3 := by decide +kernel
theorem wayW_f : (getA wayW).1.f = 7 := by decide +kernel
theorem map_nes (p : Int × Int) (W : World) : (binOp .neq 74 (.agg (mapC p)) (.agg (mapC p))).run Tryz.prog W = .ok (.bool false) W := by
  have he : (Op.equalIn 10000 74 (.agg (mapC p)) (.agg (mapC p))).run Tryz.prog W = .ok true W := by
    unfold mapC
    rw [run_equalIn_agg W 9999 _ _ _ (by kernel_rfl) (by kernel_rfl)]
    simp only [Program.fieldsOf, Tryz.underlying74]
    simp [go_sem]
  rw [run_neq_struct, he]; rfl
theorem num16_any (n : Int) (w : World) :
    Calls Tryz.prog 15 #[.int .i64 n] w fun e w' => e = .returned (.int .i64 n) ∧ Below w.heap.size w w' := by
  exact calls_ex mixedT [] (.fin [] (fun _ => .int .i64 n) []) Tryz.func15 rfl (Fits.nil w) (fun _ _ h _ => ⟨rfl, h.below⟩) rfl (fun _ => by kernel_rfl)
theorem eqI16_any (f g : Option Addr) (n m c d : Nat) (L : List Int) (w : World) (hl : L.length ≤ 1000000) (hn : n = L.length) (hm : m = L.length) (h1 : IntsAt w f L) (h2 : IntsAt w g L) :
    Calls Tryz.prog 32 #[.slice f n c, .slice g m d] w fun e w' => e = .returned (.bool true) ∧ Below w.heap.size w w' :=
  (eqI_any f g n m c d L w hl hn hm h1 h2).mono fun _ _ h => ⟨h.1, by obtain ⟨m, hm⟩ := h.2; rw [hm]; exact below_drewN (Below.refl _ _) m⟩
structure HvX where
  j : Nat
  s : Int
def HvX.I (q : S16) (b1q : Nat) (z : Int) (w0 : World) (x : HvX) (a : Act) (w : World) : Prop := (x.j ≤ q.L.length) ∧ (0 ≤ x.s ∧ x.s ≤ 3000000000000000) ∧ (hvS (q.L.drop x.j) x.s = z) ∧ Has Tryz.f7.ntmps [(1, .pointer (some ⟨b1q, 0, none⟩)), (3, .int .i64 x.s), (4, .int .i64 x.j)] a ∧ Fits [] w0 [⟨b1q, 0, 28, (s16C q), .own⟩] w
theorem hv_loop_rest (q : S16) (b1q : Nat) (z : Int) {w0 W : World} {a : Act} {Q : Exit → Act → World → Prop} (hL : RowsAt KAc w0 q.h q.L) (hl : q.L.length ≤ 1000000000000000) (hm : ∀ a ∈ q.L, a.m ≤ 1000000000000000) (j : Nat) (s : Int) (hz : s = z)
    (hT : Has Tryz.f7.ntmps [(1, .pointer (some ⟨b1q, 0, none⟩)), (3, .int .i64 s), (4, .int .i64 j)] a) (hF : Fits [] w0 [⟨b1q, 0, 28, (s16C q), .own⟩] W) (hQr : ∀ a w, bodyPost Tryz.prog Tryz.f7 (fun e w' => e = .returned (.bool (decide (z > 3000))) ∧ Below w0.heap.size w0 w') .ret a w → Q .ret a w) : wpI Tryz.prog Q (restAt Tryz.f7 0) (.exit 0) a W := by
  exact wpI_pop (k' := popD 0 (restAt Tryz.f7 0)) (by kernel_rfl) (wpI_ex mixedT Tryz.f7 (popD 0 (restAt Tryz.f7 0)) [(1, .pointer (some ⟨b1q, 0, none⟩)), (3, .int .i64 s), (4, .int .i64 j)] [⟨b1q, 0, 28, (s16C q), .own⟩] (.fin [] (fun _ => .bool (decide ((s : Int) > 3000))) []) hT hF (fun _ _ hk _ => ⟨by rw [hz], hk.below⟩) (R := (fun e w' => e = .returned (.bool (decide (z > 3000))) ∧ Below w0.heap.size w0 w')) (J := fun _ _ _ => False) hQr (fun _ _ _ h => h.elim) (fun _ => by kernel_rfl))
set_option maxRecDepth 100000 in
theorem hv_loop (q : S16) (b1q : Nat) (z : Int) {w0 W : World} {a : Act} {Q : Exit → Act → World → Prop} (hL : RowsAt KAc w0 q.h q.L) (hl : q.L.length ≤ 1000000000000000) (hm : ∀ a ∈ q.L, a.m ≤ 1000000000000000) (x0 : HvX) (hI : HvX.I q b1q z w0 x0 a W) (hQr : ∀ a w, bodyPost Tryz.prog Tryz.f7 (fun e w' => e = .returned (.bool (decide (z > 3000))) ∧ Below w0.heap.size w0 w') .ret a w → Q .ret a w) : wpI Tryz.prog Q (.code (nthLoop Tryz.f7 0) :: restAt Tryz.f7 0) .normal a W := by
  rw [show nthLoop Tryz.f7 0 = .loop (bodyOf (nthLoop Tryz.f7 0)) from by kernel_rfl]
  refine wp_lp (fun x a w => HvX.I q b1q z w0 x a w) (fun x => q.L.length - x.j) x0 hI fun x a w hI => ?_
  obtain ⟨j, s⟩ := x
  obtain ⟨hj, hs, hz, hT, hF⟩ := hI
  simp only at hj hs hz hT hF
  by_cases hlt : j < q.L.length
  · have hd : decide ((j : Int) < q.L.length) = true := decide_eq_true (by omega)
    have hjw : IntKind.i64.wrap ((j : Int) + 1) = ((j + 1 : Nat) : Int) := (IntWalk.i64_in _ (by omega)).trans (by omega)
    obtain ⟨a, hqj⟩ : ∃ a, q.L[j]? = some a := ⟨_, List.getElem?_eq_getElem (by omega)⟩
    have ham := hm a (List.mem_of_getElem? hqj)
    rw [drop_consM hqj, hvS] at hz
    by_cases hs2 : s < 1048576
    · have hd2 : decide ((s : Int) < 1048576) = true := decide_eq_true hs2
      rw [if_pos hs2] at hz
      obtain ⟨b1, o1, hg, hF2⟩ := hF.rows hL hqj (by exact Nat.le_refl _) (fun _ _ h => nomatch h)
      exact wp_ex mixedT Tryz.f7 [(1, .pointer (some ⟨b1q, 0, none⟩)), (3, .int .i64 s), (4, .int .i64 j)] [⟨b1q, 0, 28, (s16C q), .own⟩, ⟨b1, o1 + j * 13, 39, (KAc.V a).toList, .row⟩] (.r 3 [a1 2 0 3, (4, .rw (fun _ => .bool (decide ((j : Int) < q.L.length))) (fun _ => .bool true)), (7, .rw (fun _ => .bool (decide ((s : Int) < 1048576))) (fun _ => .bool true))] (.r 5 [(1, .rw (fun _ => .int .i64 (IntKind.i64.wrap (s + 1))) (fun _ => .int .i64 (s + 1))), a1 3 0 3, (5, .ix 26 (fun _ => .slice q.h q.L.length q.e) (fun _ => .int .i64 j) (fun _ => .pointer (some ⟨b1, o1 + j * 13, none⟩))), a1 7 1 12, (9, .rw (fun _ => .int .i64 (IntKind.i64.wrap ((s + 1) + a.m))) (fun _ => .int .i64 ((s + 1) + a.m)))] (.r 4 [(1, .rw (fun _ => .int .i64 (IntKind.i64.wrap (j + 1))) (fun _ => .int .i64 ((j + 1 : Nat) : Int)))] (.out none (fun _ => [(1, .pointer (some ⟨b1q, 0, none⟩)), (3, .int .i64 ((s + 1) + a.m)), (4, .int .i64 ((j + 1 : Nat) : Int))]) [(0, (fun _ => ⟨b1q, 0, 28, (s16C q), .own⟩))])))) hT hF2 (⟨fun _ => congrArg Value.bool hd, fun _ => congrArg Value.bool hd2, fun _ => by rw [IntWalk.i64_in _ (by omega)], fun _ _ => by rw [hg]; exact ix_row 26 39 b1 o1 _ _ j 13 Tryz.underlying26 (by kernel_rfl) hlt, fun _ => by rw [IntWalk.i64_in _ (by omega)], fun _ => by rw [hjw], fun E _ _ hT1 hF1 => ⟨⟨j + 1, s + 1 + a.m⟩, ⟨(show j + 1 ≤ q.L.length by omega), (show 0 ≤ s + 1 + (a.m : Int) ∧ s + 1 + (a.m : Int) ≤ 3000000000000000 by omega), hz, hT1, by exact hF1⟩, by (show q.L.length - (j + 1) < q.L.length - j; omega)⟩⟩) (R := (fun e w' => e = .returned (.bool (decide (z > 3000))) ∧ Below w0.heap.size w0 w')) (J := fun ze a' w' => match ze with | .normal => ∃ x' : HvX, HvX.I q b1q z w0 x' a' w' ∧ (q.L.length - x'.j) < (q.L.length - j) | ze => wpI Tryz.prog Q (restAt Tryz.f7 0) ze a' w') (fun _ _ h => wpI_ret (hQr _ _ h)) (fun e _ _ h => by cases e <;> exact h) (fun _ => by kernel_rfl)
    · have hd2 : decide ((s : Int) < 1048576) = false := decide_eq_false hs2
      rw [if_neg hs2] at hz
      exact wp_ex mixedT Tryz.f7 [(1, .pointer (some ⟨b1q, 0, none⟩)), (3, .int .i64 s), (4, .int .i64 j)] [⟨b1q, 0, 28, (s16C q), .own⟩] (.r 3 [a1 2 0 3, (4, .rw (fun _ => .bool (decide ((j : Int) < q.L.length))) (fun _ => .bool true)), (7, .rw (fun _ => .bool (decide ((s : Int) < 1048576))) (fun _ => .bool false))] (.out (some 0) (fun _ => [(1, .pointer (some ⟨b1q, 0, none⟩)), (3, .int .i64 s), (4, .int .i64 j)]) [(0, (fun _ => ⟨b1q, 0, 28, (s16C q), .own⟩))])) hT hF (⟨fun _ => congrArg Value.bool hd, fun _ => congrArg Value.bool hd2, fun E a w hT1 hF1 => hv_loop_rest q b1q z hL hl hm j s (hz) hT1 hF1 hQr⟩) (R := (fun e w' => e = .returned (.bool (decide (z > 3000))) ∧ Below w0.heap.size w0 w')) (J := fun ze a' w' => match ze with | .normal => ∃ x' : HvX, HvX.I q b1q z w0 x' a' w' ∧ (q.L.length - x'.j) < (q.L.length - j) | ze => wpI Tryz.prog Q (restAt Tryz.f7 0) ze a' w') (fun _ _ h => wpI_ret (hQr _ _ h)) (fun e _ _ h => by cases e <;> exact h) (fun _ => by kernel_rfl)
  · have hd : decide ((j : Int) < q.L.length) = false := decide_eq_false (by omega)
    exact wp_ex mixedT Tryz.f7 [(1, .pointer (some ⟨b1q, 0, none⟩)), (3, .int .i64 s), (4, .int .i64 j)] [⟨b1q, 0, 28, (s16C q), .own⟩] (.r 3 [a1 2 0 3, (4, .rw (fun _ => .bool (decide ((j : Int) < q.L.length))) (fun _ => .bool false))] (.out (some 0) (fun _ => [(1, .pointer (some ⟨b1q, 0, none⟩)), (3, .int .i64 s), (4, .int .i64 j)]) [(0, (fun _ => ⟨b1q, 0, 28, (s16C q), .own⟩))])) hT hF (⟨fun _ => congrArg Value.bool hd, fun E a w hT1 hF1 => hv_loop_rest q b1q z hL hl hm j s (by rw [← hz, show j = q.L.length by omega, List.drop_length]; rfl) hT1 hF1 hQr⟩) (R := (fun e w' => e = .returned (.bool (decide (z > 3000))) ∧ Below w0.heap.size w0 w')) (J := fun ze a' w' => match ze with | .normal => ∃ x' : HvX, HvX.I q b1q z w0 x' a' w' ∧ (q.L.length - x'.j) < (q.L.length - j) | ze => wpI Tryz.prog Q (restAt Tryz.f7 0) ze a' w') (fun _ _ h => wpI_ret (hQr _ _ h)) (fun e _ _ h => by cases e <;> exact h) (fun _ => by kernel_rfl)
theorem heavy16_any (q : S16) (w : World) (ok : Ok16 w q) :
    Calls Tryz.prog 7 #[.agg (s16C q).toArray] w fun e w' => e = .returned (.bool (heavyB q)) ∧ Below w.heap.size w w' := by
  have h1 := ok.l1
  have h2 := ok.n1
  have hs0 : (0 : Int) ≤ (q.l : Int) + q.F.length ∧ (q.l : Int) + q.F.length ≤ 3000000000000000 := by omega
  exact calls_ex mixedT [] (.r 1 [a1 2 0 0, a1 5 0 2, (7, .rw (fun _ => .int .i64 (IntKind.i64.wrap (q.l + q.F.length))) (fun _ => .int .i64 (q.l + q.F.length)))] (.lp (restAt Tryz.f7 0) (nthLoop Tryz.f7 0) (fun E => [(1, .pointer (some ⟨E.b 0, 0, none⟩)), (3, .int .i64 (q.l + q.F.length)), (4, .int .i64 0)]) [(0, (fun E => ⟨E.b 0, 0, 28, [.slice q.f q.l q.c, .int .i64 q.root, .slice q.g q.F.length q.k, .slice q.h q.L.length q.e], .own⟩))])) Tryz.func7 rfl (Fits.nil w) (⟨fun _ => by rw [IntWalk.i64_in _ (by omega)], fun E a W hT hF Q hQr _ => hv_loop q (E.b 0) _ ok.L ok.m1 ok.ms ⟨0, (q.l : Int) + q.F.length⟩ ⟨Nat.zero_le _, ⟨hs0.1, hs0.2⟩, rfl, hT, by exact hF⟩ hQr⟩) rfl (fun _ => by kernel_rfl)
structure EmX where
  j : Nat
def EmX.I (f g : Option Addr) (c d : Nat) (L : List (Int × Int)) (w0 : World) (x : EmX) (a : Act) (w : World) : Prop := (x.j ≤ L.length) ∧ Has Tryz.f18.ntmps [(0, .slice f L.length c), (1, .slice g L.length d), (5, .int .i64 x.j)] a ∧ Fits [] w0 [] w
theorem em_loop_rest (f g : Option Addr) (c d : Nat) (L : List (Int × Int)) {w0 W : World} {a : Act} {Q : Exit → Act → World → Prop} (hL : RowsAt KMm w0 f L) (hM : RowsAt KMm w0 g L) (hl : L.length ≤ 1000000) (j : Nat) 
    (hT : Has Tryz.f18.ntmps [(0, .slice f L.length c), (1, .slice g L.length d), (5, .int .i64 j)] a) (hF : Fits [] w0 [] W) (hQr : ∀ a w, bodyPost Tryz.prog Tryz.f18 (fun e w' => e = .returned (.bool true) ∧ Below w0.heap.size w0 w') .ret a w → Q .ret a w) : wpI Tryz.prog Q (restAt Tryz.f18 0) (.exit 0) a W := by
  exact wpI_pop (k' := popD 0 (restAt Tryz.f18 0)) (by kernel_rfl) (wpI_ex mixedT Tryz.f18 (popD 0 (restAt Tryz.f18 0)) [(0, .slice f L.length c), (1, .slice g L.length d), (5, .int .i64 j)] [] (.fin [] (fun _ => .bool true) []) hT hF (fun _ _ hk _ => ⟨rfl, hk.below⟩) (R := (fun e w' => e = .returned (.bool true) ∧ Below w0.heap.size w0 w')) (J := fun _ _ _ => False) hQr (fun _ _ _ h => h.elim) (fun _ => by kernel_rfl))
set_option maxRecDepth 100000 in
theorem em_loop (f g : Option Addr) (c d : Nat) (L : List (Int × Int)) {w0 W : World} {a : Act} {Q : Exit → Act → World → Prop} (hL : RowsAt KMm w0 f L) (hM : RowsAt KMm w0 g L) (hl : L.length ≤ 1000000) (x0 : EmX) (hI : EmX.I f g c d L w0 x0 a W) (hQr : ∀ a w, bodyPost Tryz.prog Tryz.f18 (fun e w' => e = .returned (.bool true) ∧ Below w0.heap.size w0 w') .ret a w → Q .ret a w) : wpI Tryz.prog Q (.code (nthLoop Tryz.f18 0) :: restAt Tryz.f18 0) .normal a W := by
  rw [show nthLoop Tryz.f18 0 = .loop (bodyOf (nthLoop Tryz.f18 0)) from by kernel_rfl]
  refine wp_lp (fun x a w => EmX.I f g c d L w0 x a w) (fun x => L.length - x.j) x0 hI fun x a w hI => ?_
  obtain ⟨j⟩ := x
  obtain ⟨hj, hT, hF⟩ := hI
  simp only at hj hT hF
  by_cases hlt : j < L.length
  · have hd : decide ((j : Int) < L.length) = true := decide_eq_true (by omega)
    have hjw : IntKind.i64.wrap ((j : Int) + 1) = ((j + 1 : Nat) : Int) := (IntWalk.i64_in _ (by omega)).trans (by omega)
    obtain ⟨qj, hqj⟩ : ∃ a, L[j]? = some a := ⟨_, List.getElem?_eq_getElem (by omega)⟩
    obtain ⟨b0, o0, hg0, hF2⟩ := hF.rows hL hqj (by exact Nat.le_refl _) (fun _ _ h => nomatch h)
    obtain ⟨b1, o1, hg1, hF3⟩ := hF2.rows hM hqj (by exact Nat.le_refl _) (fun _ _ h => nomatch h)
    exact wp_ex mixedT Tryz.f18 [(0, .slice f L.length c), (1, .slice g L.length d), (5, .int .i64 j)] [⟨b0, o0 + j * 2, 74, (KMm.V qj).toList, .row⟩, ⟨b1, o1 + j * 2, 74, (KMm.V qj).toList, .row⟩] (.r 4 [(3, .rw (fun _ => .bool (decide ((j : Int) < L.length))) (fun _ => .bool true))] (.r 6 [(2, .ix 43 (fun _ => .slice f L.length c) (fun _ => .int .i64 j) (fun _ => .pointer (some ⟨b0, o0 + j * 2, none⟩))), aN 3 0 0 2, (6, .ix 43 (fun _ => .slice g L.length d) (fun _ => .int .i64 j) (fun _ => .pointer (some ⟨b1, o1 + j * 2, none⟩))), aN 7 1 0 2, (8, .opc (.binOp .neq 74 (.tmp 20) (.tmp 24) 74) (fun _ => [.agg (mapC qj), .agg (mapC qj)]) (fun _ => .bool false) [] [] 0 [])] (.r 5 [(1, .rw (fun _ => .int .i64 (IntKind.i64.wrap (j + 1))) (fun _ => .int .i64 ((j + 1 : Nat) : Int)))] (.out none (fun _ => [(0, .slice f L.length c), (1, .slice g L.length d), (5, .int .i64 ((j + 1 : Nat) : Int))]) [])))) hT hF3 (⟨fun _ => congrArg Value.bool hd, fun _ _ => by rw [hg0]; exact ix_row 43 74 b0 o0 _ _ j 2 Tryz.underlying43 (by kernel_rfl) hlt, fun _ _ => by rw [hg1]; exact ix_row 43 74 b1 o1 _ _ j 2 Tryz.underlying43 (by kernel_rfl) hlt, fun _ W _ _ ho hx hk _ => opc_self ho hx hk (by kernel_rfl) (map_nes qj W), fun _ => by rw [hjw], fun E _ _ hT1 hF1 => ⟨⟨j + 1⟩, ⟨(show j + 1 ≤ L.length by omega), hT1, by exact hF1⟩, by (show L.length - (j + 1) < L.length - j; omega)⟩⟩) (R := (fun e w' => e = .returned (.bool true) ∧ Below w0.heap.size w0 w')) (J := fun ze a' w' => match ze with | .normal => ∃ x' : EmX, EmX.I f g c d L w0 x' a' w' ∧ (L.length - x'.j) < (L.length - j) | ze => wpI Tryz.prog Q (restAt Tryz.f18 0) ze a' w') (fun _ _ h => wpI_ret (hQr _ _ h)) (fun e _ _ h => by cases e <;> exact h) (fun _ => by kernel_rfl)
  · have hd : decide ((j : Int) < L.length) = false := decide_eq_false (by omega)
    exact wp_ex mixedT Tryz.f18 [(0, .slice f L.length c), (1, .slice g L.length d), (5, .int .i64 j)] [] (.r 4 [(3, .rw (fun _ => .bool (decide ((j : Int) < L.length))) (fun _ => .bool false))] (.out (some 0) (fun _ => [(0, .slice f L.length c), (1, .slice g L.length d), (5, .int .i64 j)]) [])) hT hF (⟨fun _ => congrArg Value.bool hd, fun E a w hT1 hF1 => em_loop_rest f g c d L hL hM hl j hT1 hF1 hQr⟩) (R := (fun e w' => e = .returned (.bool true) ∧ Below w0.heap.size w0 w')) (J := fun ze a' w' => match ze with | .normal => ∃ x' : EmX, EmX.I f g c d L w0 x' a' w' ∧ (L.length - x'.j) < (L.length - j) | ze => wpI Tryz.prog Q (restAt Tryz.f18 0) ze a' w') (fun _ _ h => wpI_ret (hQr _ _ h)) (fun e _ _ h => by cases e <;> exact h) (fun _ => by kernel_rfl)
theorem eqMaps_any (f g : Option Addr) (c d : Nat) (L : List (Int × Int)) (w : World) (hL : RowsAt KMm w f L) (hM : RowsAt KMm w g L) (hl : L.length ≤ 1000000) :
    Calls Tryz.prog 18 #[.slice f L.length c, .slice g L.length d] w fun e w' => e = .returned (.bool true) ∧ Below w.heap.size w w' := by
  exact calls_ex mixedT [] (.r 1 [(4, .rw (fun _ => .bool ((L.length : Int) != (L.length : Int))) (fun _ => .bool false))] (.lp (restAt Tryz.f18 0) (nthLoop Tryz.f18 0) (fun _ => [(0, .slice f L.length c), (1, .slice g L.length d), (5, .int .i64 0)]) [])) Tryz.func18 rfl (Fits.nil w) (⟨fun _ => by rw [show ((L.length : Int) != (L.length : Int)) = false from bne_self_eq_false _], fun E a W hT hF Q hQr _ => em_loop f g c d L hL hM hl ⟨0⟩ ⟨Nat.zero_le _, hT, by exact hF⟩ hQr⟩) rfl (fun _ => by kernel_rfl)
theorem own_room16 {ft : List Nat} {w0 W : World} {e s n c : Nat} {f : Option Addr} {xs : List Value} (h : (ownFx e s f n c xs).Holds ft w0 W) : n ≤ c := by
  rcases h.2.2.1.2 with ⟨hv, h0⟩ | ⟨g, cap, cur, hv, _, _, hnc, _⟩
  · omega
  · injection hv with _ _ hc
    omega
set_option maxRecDepth 100000 in
theorem wakes16_any (w : World) :
    Calls Tryz.prog 16 #[] w fun e w' => e = .returned (.bool true) ∧ Below w.heap.size w w' := by
  have hf7 : ((getA wayW).1.f == 7) = true := by rw [wayW_f]; rfl
  exact calls_ex mixedT [] (.r 1 [(0, .opc (.makeSlice 22 (.const (.int .i64 64)) (.const (.int .i64 64))) (fun _ => [.int .i64 64, .int .i64 64]) (fun E => .slice (E.f 0) 64 (E.b 0)) [] [] 0 [fun E => OwnP 75 1 (E.f 0) 64 (E.b 0) (wcells (fun _ => 0#64) 64)]), (5, .callg 30 (fun E => [.agg #[.slice (E.f 0) 64 (E.b 0)], .int .i64 0, .slice (some ⟨E.b 1, 0, none⟩) 4 4, .int .i64 5, .agg #[.int .i64 2, .int .i64 7, .bool true, .bool false, .bool false, .bool false, .bool false, .int .i64 0, .int .i64 0]]) (fun E => .tuple #[.agg #[.slice (E.f 2) ansW.n (E.b 2)], .slice (E.f 3) ansW.F.length (E.b 3), .int .i64 0]) [(0, (fun E => ownFx 75 1 (E.f 0) 64 (E.b 0) (wcells (fun _ => 0#64) 64))), (1, (fun E => ⟨E.b 1, 0, 3, [.int .i64 1, .int .i64 2, .int .i64 3, .int .i64 4], .own⟩))] [] 2 [fun E => OwnP 75 1 (E.f 2) ansW.n (E.b 2) (wcells ansW.X ansW.n), fun E => OwnP 3 1 (E.f 3) ansW.F.length (E.b 3) (icells ansW.F)]), a1 11 4 0] (.r 2 [a1 0 4 0, (1, .callg 31 (fun E => [.agg #[.slice (E.f 2) ansW.n (E.b 2)], .int .i64 0, .int .i64 5]) (fun _ => .tuple #[dscV (getA wayW).1, .int .i64 3, .int .i64 0]) [(2, (fun E => ownFx 75 1 (E.f 2) ansW.n (E.b 2) (wcells ansW.X ansW.n)))] [] 5 []), aN 7 5 0 9] (.r 3 [(1, .call 15 (fun _ => [.int .i64 0]) (fun _ => .int .i64 0)), (5, .call 15 (fun _ => [.int .i64 0]) (fun _ => .int .i64 0)), (11, .callg 32 (fun E => [.slice (E.f 3) ansW.F.length (E.b 3), .slice (some ⟨E.b 6, 0, none⟩) 1 1]) (fun _ => .bool true) [(3, (fun E => ownFx 3 1 (E.f 3) ansW.F.length (E.b 3) (icells ansW.F))), (6, (fun E => ⟨E.b 6, 0, 3, [.int .i64 4], .own⟩))] [] 7 []), a1 15 5 1, (16, .rw (fun _ => .bool ((getA wayW).1.f == 7)) (fun _ => .bool true))] (.fin [] (fun _ => .bool true) [])))) Tryz.func16 rfl (Fits.nil w) (⟨fun E W ρ o ho hx hk _ => makeW_opc (n := 64) ho hx hk (by decide), fun E W hk hp => (pmap_any (E.f 0) 64 (E.b 0) (fun _ => 0#64) 0 5 [1, 2, 3, 4] _ 4 4 ⟨2, 7, true, false, false, false, false, 0, 0⟩ _ W (own_wordsM (hp.1 _ (List.mem_cons_self ..))) (by decide) (own_room16 (hp.1 _ (List.mem_cons_self ..))) (ints_lit (hp.1 _ (List.mem_cons_of_mem _ (List.mem_singleton.2 rfl))) rfl) rfl (by decide) (by decide) (fun h => nomatch h) rfl).mono fun e w' h => by rw [← ansW_e]; exact EndMF.post (a := ansW) h hk, fun E W hk hp => (pget_any (E.f 2) ansW.n (E.b 2) ansW.X 0 5 wayW W (own_wordsM (hp.1 _ (List.mem_singleton.2 rfl))) (by rw [ansW_n]; decide) (own_room16 (hp.1 _ (List.mem_singleton.2 rfl))) (by rw [ansW_n]; rfl)).mono fun e w' h => GPost.quiet hk ⟨h.1.trans (by rw [wayW_l, wayW_e]), h.2⟩, fun _ W _ => num16_any _ W, fun _ W _ => num16_any _ W, fun E W hk hp => (eqI16_any _ _ ansW.F.length 1 _ 1 ansW.F W (by rw [ansW_F]; decide) rfl (by rw [ansW_F]; rfl) (own_ints (hp.1 _ (List.mem_cons_self ..)) rfl) (by rw [ansW_F]; exact ints_lit (hp.1 _ (List.mem_cons_of_mem _ (List.mem_singleton.2 rfl))) rfl)).mono fun e w' h => GPost.quiet hk h, fun _ => congrArg Value.bool hf7, fun _ _ h _ => ⟨rfl, h.below⟩⟩) rfl (fun _ => by kernel_rfl)
end Go.Proofs.YtbhnjaajkolklaaGreat
