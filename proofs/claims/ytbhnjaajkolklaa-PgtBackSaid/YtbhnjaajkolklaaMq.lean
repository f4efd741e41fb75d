/- Stage 16: PgtBack: an array at a number, a literal as a row. -/
import Derived.Test.YtbhnjaajkolklaaMp
import Derived.Test.YtbhnjaajkolklaaMm
set_option linter.all false
namespace Go.Proofs.Ytbhnjaajkolklaa
open Go.ChangeShapes Go.WideShapes Go.ChangeAt Go.RowKit Go.Deep

/-- An array of a block of one's own, at a number that is no literal. -/
theorem ix_arr {w : World} (ty e : TypeId) (g n k : Nat) (hu : Try.prog.underlying ty = some (.array n e)) (hi : (Try.prog.info? e).map (·.size) = some 1) (hk : k < n) :
    (Instr.indexAt ty (.pointer (some ⟨g, 0, none⟩)) (.int .i64 k)).run Try.prog w = .ok (.pointer (some ⟨g, k, none⟩)) w := by
  have he : Try.prog.elem ty = e := by simp [Program.elem, hu]
  have hn : Try.prog.arrayLen ty = n := by simp [Program.arrayLen, hu]
  have hsz : (sizeOf (Try.prog.elem ty)).run Try.prog w = .ok 1 w := by
    rw [he]
    cases hq : Try.prog.info? e with
    | none => simp [hq] at hi
    | some i =>
      have : i.size = 1 := by simpa [hq] using hi
      simp [sizeOf, typeInfo, hq, this]
  simp only [run_indexAt_array w ty _ _ _ (by rw [he, hn]; exact hu)]
  rw [hn, if_pos ⟨by omega, by omega⟩, hsz]
  simp [Addr.add]
  exact fun h => h.symm
theorem ldA_opc {ft : List Nat} {w0 W : World} {k b j : Nat} {pre : BL} {E : Env} {ρ : Operand → Value} {o : Oper} {t ta : TypeId} {p : Operand} {cs : List Value} {d : TypeDesc} {v : Value} (ho : o.op = .load t p) (hx : [ρ p] = [.pointer (some ⟨b, j, none⟩)]) (hk : Keep ft w0 W)
    (hu : Try.prog.underlying t = some d) (hd : d.isRow = false) (hp : (⟨b, 0, ta, cs, .own⟩ : Bx).Holds ft w0 W) (hv : cs[j]? = some v) :
    ∃ x q w', (execOp ρ o).run Try.prog W = .ok (.value x) w' ∧ GPost ft w0 k (fun _ => v) pre [] [] E W (.returned x) w' q := by
  refine opc_same hk ?_
  simp only [List.cons.injEq, and_true] at hx
  have hB : BoxAt W b cs.toArray ta := ⟨hp.2.2⟩
  have hc := hB.get j v (by simpa using hv)
  have hagg : (isAgg t).run Try.prog W = .ok false W := by
    unfold isAgg
    rw [Sem.run_bind, run_underlying hu W]
    cases d <;> simp_all
  unfold execOp
  simp [ho, hx, Instr.loadAt, Instr.sureAddr, loadVar, hagg, hc]
theorem stA_opc {ft : List Nat} {w0 W : World} {i b j : Nat} {cs : List Value} {v : Value} {E : Env} {ρ : Operand → Value} {o : Oper} {t ta : TypeId} {p y : Operand} {x0 x1 : Env → Bx} (ho : o.op = .store t p y) (hx : [ρ p, ρ y] = [.pointer (some ⟨b, j, none⟩), v]) (hk : Keep ft w0 W)
    (hi : (Try.prog.info? t).map (·.size) = some 1) (hv : v.oneCell' = true) (hp : ∀ p ∈ [(i, x0)], (p.2 E).Holds ft w0 W) (h0 : x0 E = ⟨b, 0, ta, cs, .own⟩) (h1 : ∀ q, x1 (envN ([] : List (Env → FV)) E 0 q) = ⟨b, 0, ta, cs.set j v, .own⟩) (hj : j < cs.length) :
    ∃ q' w', (execOp ρ o).run Try.prog W = .ok .skip w' ∧ GPost ft w0 0 (fun _ => undef) [(i, x0)] [(i, x1)] [] E W (.returned undef) w' q' := by
  have hh := hp (i, x0) (List.mem_singleton.2 rfl)
  simp only at hh
  rw [h0] at hh
  have hB : BoxAt W b cs.toArray ta := ⟨hh.2.2⟩
  have hcell : W.cell? ⟨b, j, none⟩ = some cs[j] := hB.get j _ (by simp [hj])
  have hfz : W.frozen? ⟨b, j, none⟩ = false := hB.free j
  simp only [List.cons.injEq, and_true] at hx
  have hsz : (sizeOf t).run Try.prog W = .ok 1 W := by
    cases hq : Try.prog.info? t with
    | none => simp [hq] at hi
    | some i =>
      have : i.size = 1 := by simpa [hq] using hi
      simp [sizeOf, typeInfo, hq, this]
  have hs := run_store Try.prog W ⟨b, j, none⟩ v .plain hv
  rw [hcell] at hs
  rw [show (if W.frozen? ⟨b, j, none⟩ then (Result.halt (Halt.unsupported (Unsupported.unsafePointer "a write to bytes that a string shares")) W : Result Unit) else .ok () (W.setCell ⟨b, j, none⟩ v)) = .ok () (W.setCell ⟨b, j, none⟩ v) from if_neg (by rw [hfz]; decide)] at hs
  have hF := (Fits.box hh.2.2).store (i := 0) rfl rfl j v
  obtain ⟨q, hq⟩ := GPost.boxM (new := []) (v := fun _ => undef) (e := .returned undef) (rest := []) (w' := W.setCell ⟨b, j, none⟩ v) (k := 0) (x1 := x1) (fun _ => (0, none)) hk hp (by rw [h0]; rfl) (by rw [h1]; rfl) (fun _ h => nomatch h) rfl (by rw [h1]; exact hF)
  refine ⟨q, W.setCell ⟨b, j, none⟩ v, ?_, hq⟩
  unfold execOp
  simp only [ho, hx.1, hx.2, Sem.run_bind, Instr.storeAt, Instr.sureAddr, Sem.run_pure, Result.andThen_ok]
  cases v <;> first
    | (simp [Value.oneCell'] at hv; done)
    | (simp [storeVar, hsz, Value.cells, storeCells, hs, Addr.add])
/-- A literal row of one's own, as a row. -/
theorem Fits.lit {ft : List Nat} {w0 W : World} {h : List Bx} {i b n size : Nat} {e : TypeId} {xs : List Value} (H : Fits ft w0 h W) (hi : h[i]? = some ⟨b, 0, e, xs, .own⟩) (hl : xs.length = n * size) (hn : n ≤ 1000000) : Fits ft w0 (h.set i (ownFx e size (some ⟨b, 0, none⟩) n n xs)) W := by
  have hh := H.all i _ hi
  have hB : BoxAt W b xs.toArray e := ⟨hh.2.2⟩
  refine ⟨H.keep, fun k x hx => ?_, fun k m x y hx hy hkm c hc => ?_⟩
  · rcases set_get hx with ⟨_, rfl⟩ | ⟨_, hx⟩
    · refine ⟨rfl, fun b' hb' => ?_, own_lit hh hl hn, OwnP.local _ _ _ _ _ _⟩
      obtain rfl := Option.some.inj hb'
      exact ⟨hh.2.1, hB.lt⟩
    · exact H.all k x hx
  · rcases set_get hx with ⟨e1, hx1⟩ | ⟨_, hx1⟩ <;> rcases set_get hy with ⟨e2, hy1⟩ | ⟨_, hy1⟩
    · exact absurd (e1.trans e2.symm) hkm
    · subst hx1
      exact H.ne i m _ y hi hy1 (fun h => hkm (e1.trans h)) c hc
    · subst hy1
      exact H.ne k i x _ hx1 hi (fun h => hkm (h.trans e2.symm)) c hc
    · exact H.ne k m x y hx1 hy1 hkm c hc
def hcl (H : Nat → Nat) : List Value := (List.range 64).map fun k => .int .i64 ((H k : Nat) : Int)
theorem hcl_len (H : Nat → Nat) : (hcl H).length = 64 := by simp [hcl]
theorem hcl_get (H : Nat → Nat) {k : Nat} (h : k < 64) : (hcl H)[k]? = some (.int .i64 ((H k : Nat) : Int)) := by simp [hcl, h]
theorem hcl_set (H : Nat → Nat) {k n : Nat} : (hcl H).set k (.int .i64 ((n : Nat) : Int)) = hcl (updT H k n) := by
  apply List.ext_getElem?
  intro j
  rw [List.getElem?_set]
  by_cases hj : j < 64
  · rw [hcl_get _ hj, hcl_get _ hj, hcl_len]
    unfold updT
    by_cases he : k = j
    · subst he
      simp [hj]
    · rw [if_neg he, if_neg (fun h => he h.symm)]
  · rw [List.getElem?_eq_none (by rw [hcl_len]; omega), List.getElem?_eq_none (by rw [hcl_len]; omega), hcl_len]
    split
    · rename_i he
      subst he
      rw [if_neg hj]
    · rfl
def wnB (x n : Int) : Int := IntKind.i64.wrap (Int.tmod (IntKind.u64.wrap x) (IntKind.u64.wrap n))
theorem wnB_of (x n : Int) (h0 : 0 < n) (h1 : n ≤ 4096) : ∃ k : Nat, wnB x n = (k : Int) ∧ (k : Int) < n := by
  have hn : IntKind.u64.wrap n = n := by rw [IntKind.wrap_u64]; exact Int.emod_eq_of_lt (by omega) (by omega)
  have hu : 0 ≤ IntKind.u64.wrap x := by rw [IntKind.wrap_u64]; exact Int.emod_nonneg _ (by decide)
  have a := Int.emod_nonneg (IntKind.u64.wrap x) (show n ≠ 0 by omega)
  have b := Int.emod_lt_of_pos (IntKind.u64.wrap x) h0
  refine ⟨(IntKind.u64.wrap x % n).toNat, ?_, by omega⟩
  unfold wnB
  rw [hn, Int.tmod_eq_emod_of_nonneg hu, IntWalk.i64_in _ (by omega)]
  omega
theorem EndAll.postn {ft : List Nat} {w0 W w' : World} {k n : Nat} {pre : BL} {E : Env} {e : Ending} {a : List (Int × Int) × Int} (h : EndAll W a e w') (hk : Keep ft w0 W) (hn : a.1.length = n) :
    ∃ q, GPost ft w0 k (fun E => .tuple #[.slice (E.f k) n (E.b k), .int .i64 a.2]) pre [] [fun E => OwnP KMm.t KMm.N (E.f k) n (E.b k) (rcells KMm a.1)] E W e w' q := by
  subst hn
  exact EndAll.post h hk
theorem EndM.post {ft : List Nat} {w0 W w' : World} {k : Nat} {pre : BL} {E : Env} {e : Ending} {a : (Nat × (Nat → BitVec 64)) × Int} (h : EndM W a e w') (hk : Keep ft w0 W) :
    ∃ q, GPost ft w0 k (fun E => .tuple #[.agg #[.slice (E.f k) a.1.1 (E.b k)], .int .i64 a.2]) pre [] [fun E => OwnP 45 1 (E.f k) a.1.1 (E.b k) (wcells a.1.2 a.1.1)] E W e w' q := by
  obtain ⟨f, c, he, h1, h2⟩ := h
  exact GPost.own1 hk h2 h1 (by rw [he, set_f, set_c])
theorem bP_eq : bP = ((192, bP.1.2), 0) := by
  have h1 := bP_n
  have h2 := bP_e
  rcases h : bP with ⟨⟨n, X⟩, e⟩
  rw [h] at h1 h2
  simp only at h1 h2
  rw [h1, h2]
theorem bS_eq : bS = ⟨192, bS.X, [3], 0⟩ := by
  have h1 := bS_n
  have h2 := bS_F
  have h3 := bS_e
  rcases h : bS with ⟨n, X, F, e⟩
  rw [h] at h1 h2 h3
  simp only at h1 h2 h3
  rw [h1, h2, h3]
theorem bT_eq : bT = ⟨192, bT.X, [], 0⟩ := by
  have h1 := bT_n
  have h2 := bT_F
  have h3 := bT_e
  rcases h : bT with ⟨n, X, F, e⟩
  rw [h] at h1 h2 h3
  simp only at h1 h2 h3
  rw [h1, h2, h3]
theorem bL_eq : allA 192 bP.1.2 0 = (bL, 0) := Prod.ext rfl bL_e
end Go.Proofs.Ytbhnjaajkolklaa
