/- Stage 16: rows of numbers, descriptors, mapped pages; words of one's own. -/
import Derived.Test.YtbhnjaajkolklaaGreatFb
import Derived.Test.YtbhnjaajkolklaaGreatWr
import Derived.Test.YtbhnjaajkolklaaGreatOwn
import Derived.Deep.MidRow
set_option linter.all false
namespace Go.Proofs.YtbhnjaajkolklaaGreat
open Go.ChangeShapes Go.WideShapes Go.ChangeAt Go.RowKit Go.Deep

/-- Numbers, descriptors, mapped pages: rows. -/
def KMz : RowK Int where
  ts := 25
  t := 3
  N := 1
  B := 8
  z := .int .i64 0
  V := fun n => #[.int .i64 n]
  pos := by decide
  small := by decide
  size := fun _ => rfl
  one := fun q v hv => by
    simp only [List.mem_cons, List.not_mem_nil, or_false] at hv
    subst hv
    rfl
  under := Tryz.underlying25
  info := by kernel_rfl
  zs := rfl
def mapC (p : Int × Int) : Array Value := #[.int .i64 p.1, .int .i64 p.2]
def KMm : RowK (Int × Int) where
  ts := 43
  t := 74
  N := 2
  B := 16
  z := .agg #[.int .i64 0, .int .i64 0]
  V := mapC
  pos := by decide
  small := by decide
  size := fun _ => rfl
  one := fun q v hv => by
    simp [mapC] at hv
    rcases hv with rfl | rfl <;> rfl
  under := Tryz.underlying43
  info := by kernel_rfl
  zs := rfl
theorem ints_rows {w : World} {f : Option Addr} {L : List Int} (h : IntsAt w f L) : RowsAt KMz w f L := fun j q hq => by
  obtain ⟨hl, rfl⟩ := List.getElem?_eq_some_iff.1 hq
  obtain ⟨b, o, hf, hc⟩ := h.get j hl
  refine ⟨b, o, hf, ⟨?_, fun i hi => ?_⟩⟩
  · exact cell_block hc
  · have : i = 0 := by have : i < 1 := hi; omega
    subst this
    have e : L.getD j 0 = L[j] := by simp [List.getD, hq]
    show w.cell? ⟨b, o + j * 1 + 0, none⟩ = some (.int .i64 L[j])
    rw [Nat.mul_one, Nat.add_zero, ← e]
    exact hc
theorem own_ints {ft : List Nat} {w W : World} {n c : Nat} {L : List Int} {f : Option Addr} (h : (ownFx 3 1 f n c (icells L)).Holds ft w W) (hn : n = L.length) : IntsAt W f L := by
  subst hn
  exact (OwnI.ints (show OwnI W 0 (.slice f L.length c) L from h.2.2.1)).2
theorem own_wordsM {ft : List Nat} {w W : World} {n c : Nat} {X : Nat → BitVec 64} {f : Option Addr} (h : (ownFx 75 1 f n c (wcells X n)).Holds ft w W) : WordsAt W f n X := OwnW.words (show OwnW W 0 (.slice f n c) n X from h.2.2.1)
/-- Words of one's own stay where nothing of theirs is written. -/
theorem words_keep {ft : List Nat} {w W : World} {l : Nat} {X : Nat → BitVec 64} {f : Option Addr} (h : WordsAt w f l X) (hk : Keep ft w W) (hb : ∀ g, f = some g → g.block ∉ ft) : WordsAt W f l X := fun j hj => by
  obtain ⟨b1, o1, rfl, hc⟩ := h j hj
  exact ⟨b1, o1, rfl, (World.cell?_of_block (w := w) (a := ⟨b1, o1 + j, none⟩) (hk.block b1 (cell_block hc) (hb _ rfl))).trans hc⟩
/-- One cell is stored into a row of one's own. -/
theorem st1_opc {ft : List Nat} {w0 W : World} {i n c j : Nat} {f : Option Addr} {xs : List Value} {v : Value} {E : Env} {ρ : Operand → Value} {o : Oper} {t e : TypeId} {p y : Operand} {x0 x1 : Env → Bx} {rest : BL} (ho : o.op = .store t p y) (hx : [ρ p, ρ y] = [.pointer (some ⟨blkOf f, j, none⟩), v]) (hk : Keep ft w0 W)
    (hi : (Tryz.prog.info? t).map (·.size) = some 1) (hv : v.oneCell' = true) (hp : (x0 E).Holds ft w0 W) (h0 : x0 E = ownFx e 1 f n c xs) (h1 : x1 E = ownFx e 1 f n c (xs.set j v)) (hj : j < xs.length) (hn : 0 < n) :
    ∃ q' w', (execOp ρ o).run Tryz.prog W = .ok .skip w' ∧ GPost ft w0 0 (fun _ => undef) ((i, x0) :: rest) [(i, x1)] [] E W (.returned undef) w' q' := by
  rw [h0] at hp
  obtain ⟨_, hb, hP, _⟩ := hp
  obtain ⟨hf, hc⟩ := hP.at hn
  have hf2 : f.map (fun x : Addr => x.block) = some (blkOf f) := by rw [hf]; rfl
  have hP0 := hP
  rw [hf] at hP0
  obtain ⟨s1, s2⟩ := World.ownsRow.stored hP0 j v
  have hcell := hc j xs[j] (List.getElem?_eq_getElem hj)
  have hfz : W.frozen? ⟨blkOf f, j, none⟩ = false := World.ownsRow.frozenAt hP0 _
  simp only [List.cons.injEq, and_true] at hx
  have hsz : (sizeOf t).run Tryz.prog W = .ok 1 W := by
    cases hq : Tryz.prog.info? t with
    | none => simp [hq] at hi
    | some i =>
      have : i.size = 1 := by simpa [hq] using hi
      simp [sizeOf, typeInfo, hq, this]
  have hs := run_store Tryz.prog W ⟨blkOf f, j, none⟩ v .plain hv
  rw [hcell] at hs
  rw [show (if W.frozen? ⟨blkOf f, j, none⟩ then (Result.halt (Halt.unsupported (Unsupported.unsafePointer "a write to bytes that a string shares")) W : Result Unit) else .ok () (W.setCell ⟨blkOf f, j, none⟩ v)) = .ok () (W.setCell ⟨blkOf f, j, none⟩ v) from if_neg (by rw [hfz]; decide)] at hs
  refine ⟨fun _ => (0, none), W.setCell ⟨blkOf f, j, none⟩ v, ?_, rfl, fun p hp => ?_, ⟨s2.os.trans hk.os, s2.tape.trans hk.tape, s2.output.trans hk.output, Nat.le_trans hk.size s2.size, fun m hm hn => (s2.block m (Nat.lt_of_lt_of_le hm hk.size) fun hh => ?_).trans (hk.block m hm hn)⟩, s2.size, fun m hm hn => s2.block m hm fun hh => ?_, fun m p hp => by simp at hp⟩
  · unfold execOp
    simp only [ho, hx.1, hx.2, Sem.run_bind, Instr.storeAt, Instr.sureAddr, Sem.run_pure, Result.andThen_ok]
    cases v <;> first
      | (simp [Value.oneCell'] at hv; done)
      | (simp [storeVar, hsz, Value.cells, storeCells, hs, Addr.add])
  · obtain rfl := List.mem_singleton.1 hp
    show (x1 _).Holds ft w0 _
    have e1 : x1 (envN ([] : List (Env → FV)) E 0 fun _ => (0, none)) = ownFx e 1 f n c (xs.set j v) := h1
    rw [e1]
    refine ⟨rfl, fun b hb' => ⟨(hb b hb').1, ?_⟩, ?_, OwnP.local _ _ _ _ _ _⟩
    · exact Nat.lt_of_lt_of_le (hb b hb').2 s2.size
    · rw [← hf] at s1
      exact s1
  · rcases (hb (blkOf f) hf2).1 with h | h
    · injection hh with hh
      exact hn (hh ▸ h)
    · injection hh with hh
      omega
  · refine hn (i, x0) (List.mem_cons_self ..) (by simp) ?_
    have hm : blkOf f = m := (Option.some.inj hh).symm
    have hr : (ownFx e 1 f n c xs).rd m := hf2.trans (congrArg some hm)
    exact (congrArg (fun x : Bx => x.rd m) h0).mpr hr
/-- A word is stored into a row of one's own. -/
theorem stW_opc {ft : List Nat} {w0 W : World} {i n c j : Nat} {f : Option Addr} {X : Nat → BitVec 64} {v : BitVec 64} {E : Env} {ρ : Operand → Value} {o : Oper} {p y : Operand} {x0 x1 : Env → Bx} {rest : BL} (ho : o.op = .store 75 p y) (hx : [ρ p, ρ y] = [.pointer (some ⟨blkOf f, j, none⟩), .int .u64 (u v)]) (hk : Keep ft w0 W)
    (hp : (x0 E).Holds ft w0 W) (h0 : x0 E = ownFx 75 1 f n c (wcells X n)) (h1 : x1 E = ownFx 75 1 f n c (wcells (upd X j v) n)) (hj : j < n) :
    ∃ q' w', (execOp ρ o).run Tryz.prog W = .ok .skip w' ∧ GPost ft w0 0 (fun _ => undef) ((i, x0) :: rest) [(i, x1)] [] E W (.returned undef) w' q' :=
  st1_opc ho hx hk (by kernel_rfl) rfl hp h0 (by rw [wcells_set]; exact h1) (by rw [wcells_length]; exact hj) (by omega)
/-- The rest of a row, its beginning. -/
def tailF (f : Option Addr) (c j : Nat) : Option Addr := if c = j then f else f.map fun a => a.add j
theorem tailF_opc {ft : List Nat} {w0 W : World} {k n c : Nat} {f : Option Addr} {j : Nat} {pre : BL} {E : Env} {ρ : Operand → Value} {o : Oper} {x y : Operand} (ho : o.op = .slice 25 x (some y) none none) (hx : [ρ x, ρ y] = [.slice f n c, .int .i64 j]) (hk : Keep ft w0 W) (hj : j ≤ n) :
    ∃ x' q w', (execOp ρ o).run Tryz.prog W = .ok (.value x') w' ∧ GPost ft w0 k (fun _ => .slice (tailF f c j) (n - j) (c - j)) pre [] [] E W (.returned x') w' q := by
  refine opc_same hk ?_
  simp only [List.cons.injEq, and_true] at hx
  have hu : Tryz.prog.underlying 25 = some (.slice (Tryz.prog.elem 25)) := by kernel_rfl
  have hsz : (sizeOf (Tryz.prog.elem 25)).run Tryz.prog W = .ok 1 W := by
    have hi : (Tryz.prog.info? (Tryz.prog.elem 25)).map (·.size) = some 1 := by kernel_rfl
    cases hq : Tryz.prog.info? (Tryz.prog.elem 25) with
    | none => simp [hq] at hi
    | some i =>
      have : i.size = 1 := by simpa [hq] using hi
      simp [sizeOf, typeInfo, hq, this]
  unfold execOp
  simp only [ho, Option.map_none, Option.map_some, hx.1, hx.2, Sem.run_bind, run_sliceAt_slice W _ _ _ _ _ hu, run_slice_l W _ f n c hu .i64 (j : Int) (by omega) (by omega), hsz, Result.andThen_ok, Sem.run_pure]
  unfold tailF
  cases f <;> by_cases h : c = j <;> simp [sliced, h]
theorem headF_opc {ft : List Nat} {w0 W : World} {k n c : Nat} {f : Option Addr} {j : Nat} {pre : BL} {E : Env} {ρ : Operand → Value} {o : Oper} {x y : Operand} (ho : o.op = .slice 25 x none (some y) none) (hx : [ρ x, ρ y] = [.slice f n c, .int .i64 j]) (hk : Keep ft w0 W) (hj : j ≤ c) :
    ∃ x' q w', (execOp ρ o).run Tryz.prog W = .ok (.value x') w' ∧ GPost ft w0 k (fun _ => .slice f j c) pre [] [] E W (.returned x') w' q := by
  refine opc_same hk ?_
  simp only [List.cons.injEq, and_true] at hx
  have hu : Tryz.prog.underlying 25 = some (.slice (Tryz.prog.elem 25)) := by kernel_rfl
  have hsz : (sizeOf (Tryz.prog.elem 25)).run Tryz.prog W = .ok 1 W := by
    have hi : (Tryz.prog.info? (Tryz.prog.elem 25)).map (·.size) = some 1 := by kernel_rfl
    cases hq : Tryz.prog.info? (Tryz.prog.elem 25) with
    | none => simp [hq] at hi
    | some i =>
      have : i.size = 1 := by simpa [hq] using hi
      simp [sizeOf, typeInfo, hq, this]
  unfold execOp
  simp only [ho, Option.map_none, Option.map_some, hx.1, hx.2, Sem.run_bind, run_sliceAt_slice W _ _ _ _ _ hu, run_slice_h W _ f n c hu .i64 (j : Int) (by omega) (by omega), hsz, Result.andThen_ok, Sem.run_pure]
  cases f <;> simp [sliced, Addr.add]
theorem tailF_ints {w : World} {f : Option Addr} {c j : Nat} {L : List Int} (h : IntsAt w f L) (hc : L.length ≤ c) : IntsAt w (tailF f c j) (L.drop j) := fun i hi => by
  rw [List.length_drop] at hi
  obtain ⟨b1, o1, hf, hcell⟩ := h (j + i) (by omega)
  have e : (L.drop j).getD i 0 = L.getD (j + i) 0 := by simp [List.getD, List.getElem?_drop]
  refine ⟨b1, o1 + j, by unfold tailF; rw [if_neg (by omega), hf]; by_cases hj : j = 0 <;> simp [Addr.add, hj], ?_⟩
  show w.cell? ⟨b1, o1 + j + i, none⟩ = some (.int .i64 ((L.drop j).getD i 0))
  rw [e, Nat.add_assoc]
  exact hcell
theorem head_ints {w : World} {f : Option Addr} {j : Nat} {L : List Int} (h : IntsAt w f L) (hj : j ≤ L.length) : IntsAt w f (L.take j) := fun i hi => by
  rw [List.length_take] at hi
  obtain ⟨b1, o1, hf, hcell⟩ := h i (by omega)
  have e : (L.take j).getD i 0 = L.getD i 0 := by simp [List.getD, List.getElem?_take, show i < j by omega]
  refine ⟨b1, o1, hf, ?_⟩
  show w.cell? ⟨b1, o1 + i, none⟩ = some (.int .i64 ((L.take j).getD i 0))
  rw [e]
  exact hcell
/-- A row of numbers, whoever's, appended to an empty block of one's own. -/
theorem cloneZ_opc {ft : List Nat} {w0 W : World} {E : Env} {ρ : Operand → Value} {o : Oper} {s x : Operand} (ho : o.op = .call ⟨.builtin .append, #[s, x], #[25, 25]⟩) {i k c b : Nat} {L : List Int} {f : Option Addr} {rest : BL} (x0 : Env → Bx) (h0 : x0 E = ⟨b, 0, 3, [], .own⟩)
    (hx : [ρ s, ρ x] = [.slice (some ⟨b, 0, none⟩) 0 0, .slice f L.length c]) (hk : Keep ft w0 W) (hp : (x0 E).Holds ft w0 W) (hL : IntsAt W f L) (hf : f ≠ none) (hlen : L.length ≤ 1000000) :
    ∃ r q w', (execOp ρ o).run Tryz.prog W = .ok (.value r) w' ∧ GPost ft w0 k (fun E => .slice (E.f k) L.length (E.b k)) ((i, x0) :: rest) [(i, fun _ => noBx)] [fun E => OwnP 3 1 (E.f k) L.length (E.b k) (icells L)] E W (.returned r) w' q := by
  simp only [List.cons.injEq, and_true] at hx
  have hb := hp
  rw [h0] at hb
  have hown := own_lit (n := 0) (size := 1) hb rfl (by omega)
  obtain ⟨a, rfl⟩ : ∃ a, f = some a := by cases f with | none => exact absurd rfl hf | some a => exact ⟨a, rfl⟩
  have key : ∃ f' c' w', (Builtin.append_ #[25, 25] o.type #[.slice (some ⟨b, 0, none⟩) 0 0, .slice (some a) L.length c]).run Tryz.prog W = .ok (.slice f' (0 + L.length) c') w' ∧ OwnP 3 1 f' (0 + L.length) c' ([] ++ icells L) w' ∧ W.grownBy w' (some b) ∧ ∀ b', f'.map (·.block) = some b' → some b = some b' ∨ W.heap.size ≤ b' := by
    by_cases hm : 0 < L.length
    · refine run_append_at (P := Tryz.prog) (W := W) 25 o.type 3 (z := .int .i64 0) (size := 1) (bytes := 8) Tryz.underlying25 (by kernel_rfl) rfl (by decide) (by decide) hown (a := a) (m := L.length) (d := c) (news := icells L) (by rw [icells_length, Nat.mul_one]) (fun j u hj => ?_) (icells_one L) (by omega) hm
      have hjl : j < L.length := by
        have := (List.getElem?_eq_some_iff.1 hj).1
        rwa [icells_length] at this
      obtain ⟨b1, o1, hf1, hc⟩ := hL.get j hjl
      rw [icells_get L j hjl] at hj
      injection hf1 with hf1
      subst hf1
      rw [add_none, ← Option.some.inj hj]
      exact hc
    · have hl0 : L = [] := List.eq_nil_of_length_eq_zero (by omega)
      subst hl0
      obtain ⟨i2, hq, hqz⟩ := Option.map_eq_some_iff.1 (show (Tryz.prog.info? 3).map (fun i => (i.zero, i.size, i.bytes)) = some (some (.int .i64 0), 1, 8) by kernel_rfl)
      obtain ⟨hz0, hz1, hz2⟩ : i2.zero = some (.int .i64 0) ∧ i2.size = 1 ∧ i2.bytes = 8 := by
        simp only [Prod.mk.injEq] at hqz
        exact hqz
      obtain ⟨w', hr, ho, hg⟩ := run_append_fits (P := Tryz.prog) W 0 25 o.type 3 i2 1 Tryz.underlying25 hq hz1 b 0 0 [] hown a 0 c [] (by simp) (fun j u hj => by simp at hj) (fun u hu => by cases hu) (by omega)
      exact ⟨some ⟨b, 0, none⟩, 0, w', hr, ho, hg, fun b hb => Or.inl hb⟩
  obtain ⟨f', c', w', hr, hown', hg, hat⟩ := key
  rw [List.nil_append, Nat.zero_add] at hown'
  rw [Nat.zero_add] at hr
  obtain ⟨q, hq⟩ := GPost.grownB (k := k) (i := i) (v := fun E => .slice (E.f k) L.length (E.b k)) (rest := rest) (e := .returned (.slice f' L.length c')) x0 h0 hk hp hown' hg hat (by rw [set_f, set_c])
  refine ⟨.slice f' L.length c', q, w', ?_, hq⟩
  unfold execOp
  simp only [ho, resolve, invoke, builtin, Sem.run_bind, Sem.run_pure, Result.andThen_ok, List.map_toArray, List.map_cons, List.map_nil, hx.1, hx.2, hr]
end Go.Proofs.YtbhnjaajkolklaaGreat
