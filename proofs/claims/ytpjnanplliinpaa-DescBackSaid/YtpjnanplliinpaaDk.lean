/- Covers and Index: contracts; a slice of bulwarklaw3.Ask, opened. -/
import Derived.Test.YtpjnanplliinpaaDg
namespace Go.Proofs.Ytpjnanplliinpaa
open Go.ChangeShapes Go.WideShapes Go.ChangeAt Go.RowKit Go.Deep

theorem dcovers_no (lv : Int) (w : World) (h : numB lv 3 = false) :
    Calls Try.prog 20 #[.int .i64 lv] w fun e w' => e = .returned (.tuple #[.int .i64 0, .int .i64 1]) ∧ w = w' := by
  have HL := Lib.hid (fun W => isLevel_any lv W)
  rw [h] at HL
  clear h
  go_enter Try.func20, Try.ntmps20
  go_wp2_with (go_at_call 36; refine (HL.out _).mono ?_; rintro e w' ⟨rfl, rfl⟩)
  go_ret2
  exact ⟨rfl, rfl⟩
theorem dcovers_yes (lv : Int) (w : World) (h : numB lv 3 = true) :
    Calls Try.prog 20 #[.int .i64 lv] w fun e w' => e = .returned (.tuple #[.int .i64 (cov lv), .int .i64 0]) ∧ w = w' := by
  have hl := numB_iff.1 h
  have HL := Lib.hid (fun W => isLevel_any lv W)
  have HC := Lib.hid (fun W => covers_any lv W hl.1 hl.2)
  rw [h] at HL
  clear h hl
  go_enter Try.func20, Try.ntmps20
  go_wp2_with (first | (go_at_call 36; refine (HL.out _).mono ?_; rintro e w' ⟨rfl, rfl⟩) | (go_at_call 37; refine (HC.out _).mono ?_; rintro e w' ⟨rfl, rfl⟩))
  go_ret2
  exact ⟨rfl, rfl⟩

def idx (lv p : Int) : Int := p / cov lv % 8
theorem idx_get (lv : Int) (x : BitVec 64) (h0 : 0 ≤ lv) (h1 : lv ≤ 3) : getN x (3 * (3 - lv)) 3 = idx lv (u x) := by
  have hm : ∀ k : Nat, ((x >>> k &&& msk 3).toNat : Int) = (x.toNat : Int) / ((2 ^ k : Nat) : Int) % 8 := by
    intro k
    rw [BitVec.toNat_and, BitVec.toNat_ushiftRight, show (msk 3).toNat = 2 ^ 3 - 1 from by decide, Nat.and_two_pow_sub_one_eq_mod, Nat.shiftRight_eq_div_pow]
    norm_cast
  have hc : lv = 0 ∨ lv = 1 ∨ lv = 2 ∨ lv = 3 := by omega
  unfold getN idx u
  rcases hc with rfl | rfl | rfl | rfl
  · exact hm 9
  · exact hm 6
  · exact hm 3
  · exact hm 0
theorem dindex_no (lv p : Int) (w : World) (h : (numB lv 3 && numB p 4095) = false) :
    Calls Try.prog 21 #[.int .i64 lv, .int .i64 p] w fun e w' => e = .returned (.tuple #[.int .i64 0, .int .i64 1]) ∧ w = w' := by
  have HL := Lib.hid (fun W => isLevel_any lv W)
  have HP := Lib.hid (fun W => isPage_any p W)
  cases h1 : numB lv 3
  · rw [h1] at HL
    clear h1 h
    go_enter Try.func21, Try.ntmps21
    go_wp2_with (go_at_call 36; refine (HL.out _).mono ?_; rintro e w' ⟨rfl, rfl⟩)
    go_ret2
    exact ⟨rfl, rfl⟩
  · rw [h1, Bool.true_and] at h
    rw [h1] at HL
    rw [h] at HP
    clear h1 h
    go_enter Try.func21, Try.ntmps21
    go_wp2_with (first | (go_at_call 36; refine (HL.out _).mono ?_; rintro e w' ⟨rfl, rfl⟩) | (go_at_call 38; refine (HP.out _).mono ?_; rintro e w' ⟨rfl, rfl⟩))
    go_ret2
    exact ⟨rfl, rfl⟩
theorem dindex_yes (lv p : Int) (w : World) (h1 : numB lv 3 = true) (h2 : numB p 4095 = true) :
    Calls Try.prog 21 #[.int .i64 lv, .int .i64 p] w fun e w' => e = .returned (.tuple #[.int .i64 (idx lv p), .int .i64 0]) ∧ Below w.heap.size w w' := by
  have hl := numB_iff.1 h1
  have hp := numB_iff.1 h2
  obtain ⟨x, rfl⟩ := u_of p hp.1 (by omega)
  have HL := Lib.hid (fun W => isLevel_any lv W)
  have HP := Lib.hid (fun W => isPage_any (u x) W)
  have HB := Lib.hid (fun W => below_any lv W hl.1 hl.2)
  have HG := Lib.hid (fun W => get_yes x (3 * (3 - lv)) 3 W (by unfold okB; exact decide_eq_true (by omega)))
  have he : u (x >>> (3 * (3 - lv)).toNat &&& msk 3) = idx lv (u x) := idx_get lv x hl.1 hl.2
  have hb : 0 ≤ idx lv (u x) ∧ idx lv (u x) ≤ 7 := by unfold idx; omega
  rw [he] at HG
  rw [h1] at HL
  rw [h2] at HP
  clear h1 h2 he
  obtain ⟨hb0, hb1⟩ := hb
  generalize idx lv (u x) = g at *
  generalize 3 * (3 - lv) = q at *
  clear hl hp
  go_enter Try.func21, Try.ntmps21
  go_wp2_with (first | (go_at_call 36; refine (HL.out _).mono ?_; rintro e w' ⟨rfl, rfl⟩) | (go_at_call 38; refine (HP.out _).mono ?_; rintro e w' ⟨rfl, rfl⟩) | (go_at_call 40; refine (HB.out _).mono ?_; rintro e w' ⟨rfl, rfl⟩) | (go_at_call 39; refine (HG.out _).mono ?_; rintro e w' ⟨rfl, rfl⟩))
  go_ret2
  exact ⟨rfl, by go_grown⟩
theorem rindex_any (lv p : Int) (w : World) (h0 : 0 ≤ lv) (h1 : lv ≤ 3) (p0 : 0 ≤ p) (p1 : p ≤ 4095) :
    Calls Try.prog 25 #[.int .i64 lv, .int .i64 p] w fun e w' => e = .returned (.int .i64 (idx lv p)) ∧ Below w.heap.size w w' := by
  have HC := Lib.hid (fun W => rcovers_any lv W h0 h1)
  have hi : idx lv p = p / cov lv % 8 := rfl
  rw [hi]
  have hc := cov_pos lv
  clear hi
  generalize cov lv = c at *
  obtain ⟨c1, c2⟩ := hc
  have c0 : c ≠ 0 := by omega
  have d1 : p.tdiv c = p / c := Int.tdiv_eq_ediv_of_nonneg p0
  have d2 : 0 ≤ p / c := Int.ediv_nonneg p0 (by omega)
  have d3 : p / c ≤ 4095 := Int.le_trans (Int.ediv_le_self _ p0) p1
  have d4 : IntKind.i64.wrap (p / c) = p / c := IntWalk.i64_in _ (by omega)
  have d5 : (p / c).tmod 8 = p / c % 8 := Int.tmod_eq_emod_of_nonneg d2
  go_enter Try.func25, Try.ntmps25
  go_wp2_with (go_at_call 23; refine (HC.out _).mono ?_; rintro e w' ⟨rfl, hb⟩)
  go_ret
  exact ⟨ret_int rfl, hb⟩

/-- What a question is. -/
structure Q3 where
  st : Int
  lv : Int
  pg : Int
  d : Dsc
  w : BitVec 64
instance : Inhabited Q3 := ⟨⟨0, 0, 0, dz, 0#64⟩⟩
def askV (q : Q3) : Array Value := #[.int .i64 q.st, .int .i64 q.lv, .int .i64 q.pg, .int .i64 q.d.k, .int .i64 q.d.f, .bool q.d.r, .bool q.d.w, .bool q.d.x, .bool q.d.a, .bool q.d.n, .int .i64 q.d.s, .int .i64 q.d.o, .int .u64 (u q.w)]
/-- A question in memory. -/
structure Ask3 (W : World) (b o : Nat) (q : Q3) : Prop where
  lt : b < W.heap.size
  c : ∀ j, j < 13 → W.cell? ⟨b, o + j, none⟩ = (askV q)[j]?
  bd : q.d.k ≤ 9223372036854775807 ∧ -9223372036854775808 ≤ q.d.k ∧ q.d.f ≤ 9223372036854775807 ∧ -9223372036854775808 ≤ q.d.f
  bs : q.st ≤ 9223372036854775807 ∧ -9223372036854775808 ≤ q.st ∧ q.lv ≤ 9223372036854775807 ∧ -9223372036854775808 ≤ q.lv
theorem Ask3.below {W w : World} {b o : Nat} {q : Q3} (h : Ask3 W b o q) (hb : Below W.heap.size W w) : Ask3 w b o q :=
  ⟨Nat.lt_of_lt_of_le h.lt hb.size, fun j hj => (hb.cell (p := ⟨b, o + j, none⟩) h.lt).trans (h.c j hj), h.bd, h.bs⟩

section
variable {H : Type} {enc : TypeId × Value → H} {w : World} {base : Nat} {held : Bool}
theorem part_of {t : TypeId} {fs : Array Field} {n : Nat} {cs : List Value} {y : DataW H × List MemPlace} (he : Try.prog.underlying t = some (.struct fs)) (h : DataW.trod enc Try.prog w base (fun _ => true) held n t cs = some y) (j off c : Nat) (ty : TypeId) (hf : ∃ f, fs[j]? = some f ∧ f.type = ty ∧ f.offset = off) (hc : Try.prog.cellsOf ty = c) :
    ∃ (z : DataW H × List MemPlace) (m : Nat), DataW.trod enc Try.prog w base (fun _ => true) held m ty ((cs.drop off).take c) = some z := by
  obtain ⟨f, hj, rfl, rfl⟩ := hf
  subst hc
  obtain ⟨xs, m, _, _, _, hl, hf⟩ := DataW.trod_struct he h
  have hjl : j < fs.size := (Array.getElem?_eq_some_iff.1 hj).1
  exact ⟨_, m, (hf j f hj).trans (List.getElem?_eq_getElem (by omega))⟩
theorem int_cells {n : Nat} {cs : List Value} {y : DataW H × List MemPlace} (h : DataW.trod enc Try.prog w base (fun _ => true) held n 3 cs = some y) :
    ∃ a : Int, cs = [.int .i64 a] ∧ a ≤ 9223372036854775807 ∧ -9223372036854775808 ≤ a := by
  obtain ⟨a, hc, _, hw⟩ := DataW.trod_int Try.underlying3 h
  exact ⟨a, hc, i64_bounds hw⟩
theorem word_cells {n : Nat} {cs : List Value} {y : DataW H × List MemPlace} (h : DataW.trod enc Try.prog w base (fun _ => true) held n 27 cs = some y) :
    ∃ x : BitVec 64, cs = [.int .u64 (u x)] := by
  obtain ⟨a, hc, _, hw⟩ := DataW.trod_int Try.underlying27 h
  obtain ⟨x, rfl⟩ := u64_word hw
  exact ⟨x, hc⟩
theorem bool_cells {n : Nat} {cs : List Value} {y : DataW H × List MemPlace} (h : DataW.trod enc Try.prog w base (fun _ => true) held n 4 cs = some y) :
    ∃ b : Bool, cs = [.bool b] := by
  obtain ⟨b, hc, _⟩ := DataW.trod_bool Try.underlying4 h
  exact ⟨b, hc⟩
theorem c_int : Try.prog.cellsOf 3 = 1 := by kernel_rfl
theorem c_bool : Try.prog.cellsOf 4 = 1 := by kernel_rfl
theorem c_word : Try.prog.cellsOf 27 = 1 := by kernel_rfl
theorem c_attr : Try.prog.cellsOf 24 = 6 := by kernel_rfl
theorem c_desc : Try.prog.cellsOf 26 = 9 := by kernel_rfl
theorem c_ask : Try.prog.cellsOf 29 = 13 := by kernel_rfl

theorem attr_cells {n : Nat} {cs : List Value} {y : DataW H × List MemPlace} (hlen : cs.length = 6) (h : DataW.trod enc Try.prog w base (fun _ => true) held n 24 cs = some y) :
    ∃ (r wr x a n : Bool) (s : Int), cs = [.bool r, .bool wr, .bool x, .bool a, .bool n, .int .i64 s] := by
  match cs, hlen with
  | [v0, v1, v2, v3, v4, v5], _ =>
    obtain ⟨_, _, t0⟩ := part_of Try.underlying24 h 0 0 1 4 ⟨_, rfl, rfl, rfl⟩ c_bool
    obtain ⟨_, _, t1⟩ := part_of Try.underlying24 h 1 1 1 4 ⟨_, rfl, rfl, rfl⟩ c_bool
    obtain ⟨_, _, t2⟩ := part_of Try.underlying24 h 2 2 1 4 ⟨_, rfl, rfl, rfl⟩ c_bool
    obtain ⟨_, _, t3⟩ := part_of Try.underlying24 h 3 3 1 4 ⟨_, rfl, rfl, rfl⟩ c_bool
    obtain ⟨_, _, t4⟩ := part_of Try.underlying24 h 4 4 1 4 ⟨_, rfl, rfl, rfl⟩ c_bool
    obtain ⟨_, _, t5⟩ := part_of Try.underlying24 h 5 5 1 3 ⟨_, rfl, rfl, rfl⟩ c_int
    obtain ⟨r, h0⟩ := bool_cells t0
    obtain ⟨wr, h1⟩ := bool_cells t1
    obtain ⟨x, h2⟩ := bool_cells t2
    obtain ⟨a, h3⟩ := bool_cells t3
    obtain ⟨n, h4⟩ := bool_cells t4
    obtain ⟨s, h5, _, _⟩ := int_cells t5
    refine ⟨r, wr, x, a, n, s, ?_⟩
    simp at h0 h1 h2 h3 h4 h5
    rw [h0, h1, h2, h3, h4, h5]
theorem desc_cells {n : Nat} {cs : List Value} {y : DataW H × List MemPlace} (hlen : cs.length = 9) (h : DataW.trod enc Try.prog w base (fun _ => true) held n 26 cs = some y) :
    ∃ d : Dsc, cs = [.int .i64 d.k, .int .i64 d.f, .bool d.r, .bool d.w, .bool d.x, .bool d.a, .bool d.n, .int .i64 d.s, .int .i64 d.o] ∧ d.k ≤ 9223372036854775807 ∧ -9223372036854775808 ≤ d.k ∧ d.f ≤ 9223372036854775807 ∧ -9223372036854775808 ≤ d.f := by
  match cs, hlen with
  | [v0, v1, v2, v3, v4, v5, v6, v7, v8], _ =>
    obtain ⟨_, _, t0⟩ := part_of Try.underlying26 h 0 0 1 3 ⟨_, rfl, rfl, rfl⟩ c_int
    obtain ⟨_, _, t1⟩ := part_of Try.underlying26 h 1 1 1 3 ⟨_, rfl, rfl, rfl⟩ c_int
    obtain ⟨_, _, t2⟩ := part_of Try.underlying26 h 2 2 6 24 ⟨_, rfl, rfl, rfl⟩ c_attr
    obtain ⟨_, _, t3⟩ := part_of Try.underlying26 h 3 8 1 3 ⟨_, rfl, rfl, rfl⟩ c_int
    obtain ⟨k, h0, b0, b1⟩ := int_cells t0
    obtain ⟨f, h1, b2, b3⟩ := int_cells t1
    obtain ⟨r, wr, x, a, n, s, h2⟩ := attr_cells rfl t2
    obtain ⟨o, h3, _, _⟩ := int_cells t3
    simp at h0 h1 h2 h3
    obtain ⟨h4, h5, h6, h7, h8, h9⟩ := h2
    exact ⟨⟨k, f, r, wr, x, a, n, s, o⟩, by rw [h0, h1, h3, h4, h5, h6, h7, h8, h9], b0, b1, b2, b3⟩
theorem ask_cells {n : Nat} {cs : List Value} {y : DataW H × List MemPlace} (hlen : cs.length = 13) (h : DataW.trod enc Try.prog w base (fun _ => true) held n 29 cs = some y) :
    ∃ q : Q3, cs = (askV q).toList ∧ (q.d.k ≤ 9223372036854775807 ∧ -9223372036854775808 ≤ q.d.k ∧ q.d.f ≤ 9223372036854775807 ∧ -9223372036854775808 ≤ q.d.f) ∧ (q.st ≤ 9223372036854775807 ∧ -9223372036854775808 ≤ q.st ∧ q.lv ≤ 9223372036854775807 ∧ -9223372036854775808 ≤ q.lv) := by
  match cs, hlen with
  | [v0, v1, v2, v3, v4, v5, v6, v7, v8, v9, v10, v11, v12], _ =>
    obtain ⟨_, _, t0⟩ := part_of Try.underlying29 h 0 0 1 3 ⟨_, rfl, rfl, rfl⟩ c_int
    obtain ⟨_, _, t1⟩ := part_of Try.underlying29 h 1 1 1 3 ⟨_, rfl, rfl, rfl⟩ c_int
    obtain ⟨_, _, t2⟩ := part_of Try.underlying29 h 2 2 1 3 ⟨_, rfl, rfl, rfl⟩ c_int
    obtain ⟨_, _, t3⟩ := part_of Try.underlying29 h 3 3 9 26 ⟨_, rfl, rfl, rfl⟩ c_desc
    obtain ⟨_, _, t4⟩ := part_of Try.underlying29 h 4 12 1 27 ⟨_, rfl, rfl, rfl⟩ c_word
    obtain ⟨st, h0, p0, p1⟩ := int_cells t0
    obtain ⟨lv, h1, p2, p3⟩ := int_cells t1
    obtain ⟨pg, h2, _, _⟩ := int_cells t2
    obtain ⟨d, h3, b0, b1, b2, b3⟩ := desc_cells rfl t3
    obtain ⟨x, h4⟩ := word_cells t4
    simp at h0 h1 h2 h3 h4
    obtain ⟨e0, e1, e2, e3, e4, e5, e6, e7, e8⟩ := h3
    exact ⟨⟨st, lv, pg, d, x⟩, by rw [h0, h1, h2, h4, e0, e1, e2, e3, e4, e5, e6, e7, e8]; rfl, ⟨b0, b1, b2, b3⟩, p0, p1, p2, p3⟩

/-- The argument of a law of stage 3. -/
theorem asks3 {n : Nat} {c : Value} {y : DataW H × List MemPlace} (h : DataW.trod enc Try.prog w base (fun _ => true) held n 22 [c] = some y) :
    (∃ (a : Option Addr) (cap : Nat), c = .slice a 0 cap) ∨
    ∃ (b o len cap : Nat) (q : Nat → Q3), c = .slice (some ⟨b, o, none⟩) len cap ∧ len ≤ 9223372036854775807 ∧ ∀ i, i < len → Ask3 w b (o + i * 13) (q i) := by
  rcases open_slice Try.underlying22 h with ⟨hcs, _⟩ | ⟨a, len, cap, m, n, D, Pl, hcs, _, hl, hm, hmm, _, hi⟩
  · exact .inl ⟨none, 0, by simpa using hcs⟩
  · simp at hcs
    subst hcs
    simp only [if_true] at hmm
    rw [hmm] at hi
    clear hmm
    by_cases hz : len = 0
    · subst hz; exact .inl ⟨_, _, rfl⟩
    · have hel : ∀ i, i < len → ∃ q : Q3, (∀ j, j < 13 → w.cell? ((a.add (i * 13)).add j) = (askV q)[j]?) ∧ (q.d.k ≤ 9223372036854775807 ∧ -9223372036854775808 ≤ q.d.k ∧ q.d.f ≤ 9223372036854775807 ∧ -9223372036854775808 ≤ q.d.f) ∧ (q.st ≤ 9223372036854775807 ∧ -9223372036854775808 ≤ q.st ∧ q.lv ≤ 9223372036854775807 ∧ -9223372036854775808 ≤ q.lv) := by
        intro i hil
        obtain ⟨cs, hc, htr⟩ := hi i (by omega)
        rw [c_ask] at hc
        obtain ⟨_, hlen, hat⟩ := World.cells?_some hc
        obtain ⟨q, hq, hb⟩ := ask_cells (hlen.trans (by first | rfl | exact c_ask)) htr
        refine ⟨q, fun j hj => ?_, hb⟩
        rw [hat j hj, hq, Array.getElem?_toList]
      obtain ⟨q0, hq0, _⟩ := hel 0 (by omega)
      have hc0 := hq0 0 (by omega)
      have ha : (a.add (0 * 13)).add 0 = a := by simp [Addr.add]
      rw [ha] at hc0
      have hc1 : w.cell? a = some (.int .i64 q0.st) := hc0
      have hsp := World.cell?_spot hc1
      obtain ⟨b, o, sp⟩ := a
      simp only at hsp
      subst hsp
      have : ∀ i, i < len → ∃ q : Q3, Ask3 w b (o + i * 13) q := by
        intro i hil
        obtain ⟨q, hq, hb, hs⟩ := hel i hil
        refine ⟨q, cell_block hc1, fun j hj => ?_, hb, hs⟩
        have := hq j hj
        rw [add_none, add_none] at this
        exact this
      obtain ⟨g, hg⟩ := choose_lt this
      unfold maxLen at hm
      exact .inr ⟨b, o, len, cap, g, rfl, by omega, hg⟩
end
end Go.Proofs.Ytpjnanplliinpaa
