/- Plain arithmetic: a uint64 as a bit vector; the operations of the walk on it. How arguments that are slices of structs are opened to cells; what a law's end owes. -/
import Derived.Test.YtpelolokdmfbdaaGreatRows
import Derived.WalkKit
import Derived.Laws.BitsAllLaws
import Derived.ProofKit
import Derived.OpenShut
import Derived.Below
import Derived.Carry
import Derived.ChangeSame
import Derived.Deep.Slices
import Derived.Deep.Fields
import Derived.DataReads
namespace Go.Proofs.YtpelolokdmfbdaaGreat
section
open Go.RowKit

/-- A word as the number that the walk has. -/
def u (x : BitVec 64) : Int := (x.toNat : Int)

theorem u_lo (x : BitVec 64) : 0 ≤ u x := by unfold u; omega
theorem u_hi (x : BitVec 64) : u x < 18446744073709551616 := by unfold u; have := x.isLt; omega
theorem u_inj {x y : BitVec 64} : u x = u y ↔ x = y := by
  unfold u
  constructor
  · intro h; exact BitVec.eq_of_toNat_eq (by omega)
  · rintro rfl; rfl
theorem u_of (n : Int) (h0 : 0 ≤ n) (h1 : n < 18446744073709551616) : ∃ x : BitVec 64, n = u x := by
  refine ⟨BitVec.ofNat 64 n.toNat, ?_⟩
  unfold u
  rw [BitVec.toNat_ofNat, Nat.mod_eq_of_lt (by omega)]
  omega
@[go_sem] theorem u_and (x y : BitVec 64) : bits .and .u64 (u x) (u y) = u (x &&& y) := by
  unfold u; rw [u64_and_nat _ _ (by have := x.isLt; omega) (by have := y.isLt; omega)]; simp
@[go_sem] theorem u_or (x y : BitVec 64) : bits .or .u64 (u x) (u y) = u (x ||| y) := by
  unfold u; rw [u64_or_nat _ _ (by have := x.isLt; omega) (by have := y.isLt; omega)]; simp
@[go_sem] theorem u_xor (x y : BitVec 64) : bits .xor .u64 (u x) (u y) = u (x ^^^ y) := by
  unfold u; rw [u64_xor_nat _ _ (by have := x.isLt; omega) (by have := y.isLt; omega)]; simp
@[go_sem] theorem u_andNot (x y : BitVec 64) : bits .andNot .u64 (u x) (u y) = u (x &&& ~~~y) := by
  unfold u; rw [u64_andNot_nat _ _ (by have := x.isLt; omega) (by have := y.isLt; omega)]; simp
@[go_sem] theorem u_not (x : BitVec 64) : bits .xor .u64 (IntKind.u64.max) (u x) = u (~~~x) := by
  have : IntKind.u64.max = u (BitVec.allOnes 64) := by decide
  rw [this, u_xor, BitVec.allOnes_xor]
@[go_sem] theorem u_not' (x : BitVec 64) : bits .xor .u64 18446744073709551615 (u x) = u (~~~x) := by
  have : (18446744073709551615 : Int) = u (BitVec.allOnes 64) := by decide
  rw [this, u_xor, BitVec.allOnes_xor]
@[go_sem] theorem u_shl (x : BitVec 64) (k : Nat) : IntKind.u64.wrap (u x * 2 ^ k) = u (x <<< k) := by
  unfold u
  rw [IntKind.wrap_u64, BitVec.toNat_shiftLeft, Nat.shiftLeft_eq]
  have : (x.toNat : Int) * 2 ^ k = ((x.toNat * 2 ^ k : Nat) : Int) := by simp
  rw [this]
  generalize x.toNat * 2 ^ k = m
  omega
@[go_sem] theorem u_shr (x : BitVec 64) (k : Nat) : u x / 2 ^ k = u (x >>> k) := by
  unfold u
  rw [BitVec.toNat_ushiftRight, Nat.shiftRight_eq_div_pow]
  norm_cast
@[go_sem] theorem u_add (x y : BitVec 64) : IntKind.u64.wrap (u x + u y) = u (x + y) := by
  unfold u; rw [IntKind.wrap_u64, BitVec.toNat_add]; omega
@[go_sem] theorem u_mul (x y : BitVec 64) : IntKind.u64.wrap (u x * u y) = u (x * y) := by
  unfold u; rw [IntKind.wrap_u64, BitVec.toNat_mul]
  have : (x.toNat : Int) * y.toNat = ((x.toNat * y.toNat : Nat) : Int) := by simp
  rw [this]
  generalize x.toNat * y.toNat = m
  omega
@[go_sem] theorem u_sub (x y : BitVec 64) : IntKind.u64.wrap (u x - u y) = u (x - y) := by
  unfold u; rw [IntKind.wrap_u64, BitVec.toNat_sub]; have := x.isLt; have := y.isLt; omega
@[go_sem] theorem u_wrap (x : BitVec 64) : IntKind.u64.wrap (u x) = u x := by
  rw [IntKind.wrap_u64]; exact Int.emod_eq_of_lt (u_lo x) (u_hi x)
theorem u_beq (x y : BitVec 64) : (u x == u y) = decide (x = y) := by
  rw [Bool.eq_iff_iff]; simp [u_inj]
theorem u_bne (x y : BitVec 64) : (u x != u y) = decide (x ≠ y) := by
  rw [bne, u_beq]; simp
/-- The highest bit as a sign, and back. -/
theorem u_signed (x : BitVec 64) : wrap64 (u x) = x.toInt := by
  unfold wrap64 u
  rw [BitVec.toInt_eq_toNat_cond]
  have := x.isLt
  split <;> omega
theorem u_unsigned (x : BitVec 64) : IntKind.u64.wrap x.toInt = u x := by
  rw [IntKind.wrap_u64]; unfold u
  rw [BitVec.toInt_eq_toNat_cond]
  have := x.isLt
  split <;> omega
theorem u_sar (x : BitVec 64) (k : Nat) : IntKind.u64.wrap (wrap64 (u x) / 2 ^ k) = u (x.sshiftRight k) := by
  rw [u_signed, ← u_unsigned, BitVec.toInt_sshiftRight, Int.shiftRight_eq_div_pow]
  norm_cast

/-- The lowest n bits. -/
def msk (n : Int) : BitVec 64 := BitVec.allOnes 64 >>> (64 - n).toNat
theorem msk_ones (n : Int) : (18446744073709551615 : Int) / 2 ^ (64 - n).toNat = u (msk n) := by
  have : (18446744073709551615 : Int) = u (BitVec.allOnes 64) := by decide
  rw [this, u_shr]; rfl
theorem msk_bit (n : Int) (k : Nat) (h0 : 0 ≤ n) (h1 : n ≤ 64) : (msk n).getLsbD k = decide (k < n.toNat) := by
  unfold msk
  rw [BitVec.getLsbD_ushiftRight, BitVec.getLsbD_allOnes]
  congr 1
  apply propext; omega
theorem msk_all (n : Int) (h : 64 ≤ n) : msk n = BitVec.allOnes 64 := by
  unfold msk; rw [show (64 - n).toNat = 0 from by omega]; rfl
theorem msk_ref (n : Int) (h0 : 0 ≤ n) (h1 : n ≤ 63) : IntKind.u64.wrap (IntKind.u64.wrap (2 ^ n.toNat) - 1) = u (msk n) := by
  have e : (msk n).toNat = 2 ^ n.toNat - 1 := by
    unfold msk
    rw [BitVec.toNat_ushiftRight, BitVec.toNat_allOnes, Nat.shiftRight_eq_div_pow]
    have : ∀ k : Fin 64, (2 ^ 64 - 1) / 2 ^ (64 - (k : Nat)) = 2 ^ (k : Nat) - 1 := by decide +kernel
    have := this ⟨n.toNat, by omega⟩
    simp only at this
    rw [show (64 - n).toNat = 64 - n.toNat from by omega]
    exact this
  have hp : 2 ^ n.toNat < 2 ^ 64 := Nat.pow_lt_pow_right (by omega) (by omega)
  have hq : 0 < 2 ^ n.toNat := Nat.pow_pos (by omega)
  unfold u
  rw [e, IntKind.wrap_u64, IntKind.wrap_u64]
  have : ((2 : Int) ^ n.toNat) = ((2 ^ n.toNat : Nat) : Int) := by norm_cast
  rw [this]
  omega
end
section
open Go.ChangeShapes Go.WideShapes Go.ChangeAt Go.RowKit Go.Deep

theorem own : ownKnob Tryz.prog.godebug = none := by kernel_rfl
theorem laidOut : laidOutB Tryz.prog = true := by kernel_rfl

section
variable {H : Type} {enc : TypeId × Value → H} {P : Program}

/-- A law's end: it is true, and nothing that was there has changed: so the one argument reads as it read. -/
theorem post_law {f : Func} {s : ChangeSpec} {apart fresh handsOn : Bool} {W W' : World} {args : Array Value} {v : Value} {ds gs : List (DataW H)} {before : List MemPlace}
    (hW : DataW.Whole enc P f.params.toList s.vars apart W args.toList ds gs before)
    (hres : ∀ (b : Nat) (sp : Nat → Bool) (hd : Bool), DataW.TrodAll enc P W' b sp hd f.resultTypes.toList (v.resultList f.resultTypes.size) (s.fn H (ds ++ gs)).results [])
    (hargs : DataW.TrodAll enc P W' 0 (fun b => decide (b < W.heap.size)) true f.params.toList args.toList (s.fn H (ds ++ gs)).args before)
    (hvars : DataW.TrodVars enc P W' (fun b => decide (b < W.heap.size)) s.vars (s.fn H (ds ++ gs)).vars [])
    (hb : Below W.heap.size W W') : s.post enc P f apart fresh handsOn false W args v W' :=
  ⟨ds, gs, before, [], before, [], hW, hres _ _ _, hargs, hvars, World.keptBut_mono (fun _ hp => ⟨hp, Or.inr (Or.inl hp)⟩) (hb.frame (· ∈ before)), fun h => by cases h⟩

variable {w : World} {base : Nat} {spare : Nat → Bool} {held : Bool}

/-- The cells of a struct of one-cell fields, each with its own reading. -/
theorem struct_cells {e : TypeId} {fs : Array Field} {fuel : Nat} {a : Addr} {cs : List Value} {x : DataW H × List MemPlace} (he : P.underlying e = some (.struct fs)) (hone : oneCellFields P fs = true)
    (hcs : w.cells? base a fs.size = some cs) (h : DataW.trod enc P w base spare held fuel e cs = some x) (j : Nat) (f : Field) (hj : fs[j]? = some f) :
    ∃ (v : Value) (y : DataW H × List MemPlace) (n : Nat), w.cell? (a.add j) = some v ∧ DataW.trod enc P w base spare held n f.type [v] = some y := by
  obtain ⟨_, hlen, hat⟩ := World.cells?_some hcs
  obtain ⟨ys, n, _, _, _, hys, hf⟩ := DataW.trod_struct he h
  obtain ⟨ho, hc⟩ := hone_of hone j f hj
  have hjl : j < fs.size := (Array.getElem?_eq_some_iff.1 hj).1
  have hd : (cs.drop j).take 1 = [cs[j]'(by omega)] := by
    rw [List.drop_eq_getElem_cons (by omega)]; rfl
  have h1 := hf j f hj
  rw [ho, hc, hd, List.getElem?_eq_getElem (by omega)] at h1
  exact ⟨_, _, n, (hat j hjl).trans (List.getElem?_eq_getElem (by omega)), h1⟩

theorem add_none (b o n : Nat) : (Addr.mk b o none).add n = ⟨b, o + n, none⟩ := by
  unfold Addr.add
  by_cases h : n = 0
  · subst h; rfl
  · rw [if_neg h]

theorem cell_block {a : Addr} {v : Value} (h : w.cell? a = some v) : a.block < w.heap.size := by
  unfold World.cell? at h
  split at h
  · rename_i hb; exact (Array.getElem?_eq_some_iff.1 hb).1
  · cases h

/-- A slice of structs: it has no element, or each of its elements' fields is a cell with a reading of its own. -/
theorem slice_cells {t e : TypeId} {fs : Array Field} {fuel : Nat} {v : Value} {x : DataW H × List MemPlace} (ht : P.underlying t = some (.slice e)) (he : P.underlying e = some (.struct fs))
    (hone : oneCellFields P fs = true) (hC : P.cellsOf e = fs.size) (h0 : 0 < fs.size) (h : DataW.trod enc P w base (fun _ => true) held fuel t [v] = some x) :
    (∃ (a : Option Addr) (cap : Nat), v = .slice a 0 cap ∧ cap ≤ maxLen) ∨
    ∃ (b o len cap : Nat), v = .slice (some ⟨b, o, none⟩) len cap ∧ 0 < len ∧ len ≤ cap ∧ cap ≤ maxLen ∧ b < w.heap.size ∧
      ∀ i, i < len → ∀ (j : Nat) (f : Field), fs[j]? = some f → ∃ (c : Value) (y : DataW H × List MemPlace) (n : Nat), w.cell? ⟨b, o + i * fs.size + j, none⟩ = some c ∧ DataW.trod enc P w base (fun _ => true) held n f.type [c] = some y := by
  rcases open_slice ht h with ⟨hcs, _⟩ | ⟨a, len, cap, m, n, D, Pl, hcs, _, hl, hm, hmm, _, hi⟩
  · exact .inl ⟨none, 0, by simpa using hcs, by unfold maxLen; omega⟩
  · simp at hcs
    subst hcs
    simp only [if_true] at hmm
    rw [hmm] at hi
    clear hmm
    by_cases hz : len = 0
    · subst hz; exact .inl ⟨_, _, rfl, hm⟩
    · have hel : ∀ i, i < len → ∀ (j : Nat) (f : Field), fs[j]? = some f → ∃ (c : Value) (y : DataW H × List MemPlace) (n : Nat), w.cell? ((a.add (i * fs.size)).add j) = some c ∧ DataW.trod enc P w base (fun _ => true) held n f.type [c] = some y := by
        intro i hil j f hj
        obtain ⟨cs, hc, htr⟩ := hi i (by omega)
        rw [hC] at hc
        exact struct_cells he hone hc htr j f hj
      have hf0 : fs[0]? = some (fs[0]'h0) := Array.getElem?_eq_getElem h0
      obtain ⟨c, _, _, hc, _⟩ := hel 0 (by omega) 0 _ hf0
      have ha : (a.add (0 * fs.size)).add 0 = a := by simp [Addr.add]
      rw [ha] at hc
      have hsp := World.cell?_spot hc
      obtain ⟨b, o, sp⟩ := a
      simp only at hsp
      subst hsp
      refine .inr ⟨b, o, len, cap, rfl, by omega, hl, hm, cell_block hc, fun i hil j f hj => ?_⟩
      have := hel i hil j f hj
      rw [add_none, add_none] at this
      exact this
end
end
end Go.Proofs.YtpelolokdmfbdaaGreat
