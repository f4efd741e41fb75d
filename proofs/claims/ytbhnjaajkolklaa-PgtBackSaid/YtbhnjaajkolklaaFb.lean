/- Engine: append to a block of one's own; rows of fields. -/
import Derived.Test.YtbhnjaajkolklaaEt
import Derived.Test.YtbhnjaajkolklaaOwnL
set_option linter.all false
namespace Go.Proofs.Ytbhnjaajkolklaa
open Go.ChangeShapes Go.WideShapes Go.ChangeAt Go.RowKit Go.Deep

theorem GPost.grownB {ft : List Nat} {w0 W w' : World} {k i : Nat} {v : Env → Value} {rest : BL} {E : Env} {e : Ending} {t t0 : TypeId} {size n' c' b : Nat} {f' : Option Addr} {xs' cs : List Value} (x0 : Env → Bx) (h0 : x0 E = ⟨b, 0, t0, cs, .own⟩) (hk : Keep ft w0 W) (hp : (x0 E).Holds ft w0 W)
    (hown : OwnP t size f' n' c' xs' w') (hg : W.grownBy w' (some b)) (hat : ∀ b', f'.map (·.block) = some b' → some b = some b' ∨ W.heap.size ≤ b') (he : e = .returned (v (E.set k (c', f')))) :
    ∃ q, GPost ft w0 k v ((i, x0) :: rest) [(i, fun _ => noBx)] [fun E => OwnP t size (E.f k) n' (E.b k) xs'] E W e w' q := by
  have hfp : ∀ {b'}, some b = some b' → (x0 E).fp b' := fun h => by rw [h0]; exact h
  have hrd : ∀ {b'}, some b = some b' → (x0 E).rd b' := fun h => by rw [h0]; exact h
  rw [h0] at hp
  obtain ⟨_, hblk, _⟩ := hp
  refine ⟨fun _ => (c', f'), he, fun p hpp => ?_, ⟨hg.os.trans hk.os, hg.tape.trans hk.tape, hg.output.trans hk.output, Nat.le_trans hk.size hg.size, fun j hj hn => (hg.block j (Nat.lt_of_lt_of_le hj hk.size) fun hh => ?_).trans (hk.block j hj hn)⟩, hg.size, fun j hj hn => hg.block j hj fun hh => ?_, fun j p hpp => ?_⟩
  · obtain rfl := List.mem_singleton.1 hpp
    rfl
  · obtain rfl := Option.some.inj hh
    rcases hblk with h | h
    · exact hn h
    · exact absurd hj (Nat.not_lt.2 h)
  · exact hn (i, x0) (List.mem_cons_self ..) (by simp) (hrd hh.symm)
  · obtain ⟨rfl, rfl⟩ : 0 = j ∧ _ = p := by
      cases j with
      | zero => exact ⟨rfl, Option.some.inj hpp⟩
      | succ j => simp at hpp
    have e1 : OwnP t size ((E.set k (c', f')).f k) n' ((E.set k (c', f')).b k) xs' = OwnP t size f' n' c' xs' := by rw [set_f, set_c]
    refine ⟨(congrFun e1 w').mpr hown, (show Local (f'.map fun x : Addr => x.block) _ from (congrArg (Local (f'.map fun x : Addr => x.block)) e1).mpr (OwnP.local _ _ _ _ _ _)), fun j hj => ⟨hown.lt j hj, ?_⟩⟩
    rcases hat j hj with h | h
    · exact ⟨Or.inr ⟨_, List.mem_cons_self .., hfp h, by simp, fun p' hp' _ => by obtain rfl := List.mem_singleton.1 hp'; rfl⟩, fun j' h1 h2 => by simp at h1; omega⟩
    · exact ⟨Or.inl h, fun j' h1 h2 => by simp at h1; omega⟩
/-- A block of one's own is a row. -/
theorem own_lit {ft : List Nat} {w0 W : World} {b n size : Nat} {e : TypeId} {xs : List Value} (h : (⟨b, 0, e, xs, .own⟩ : Bx).Holds ft w0 W) (hl : xs.length = n * size) (hn : n ≤ 1000000) : OwnP e size (some ⟨b, 0, none⟩) n n xs W :=
  ⟨hl, .inr ⟨b, n, xs.toArray, rfl, Nat.zero_le _, h.2.2, Nat.le_refl _, by unfold maxLen; omega, by simp [hl], by simp [← hl]⟩⟩
/-- The cells of a field. -/
def fldC (x : Fld) : Array Value := #[.int .i64 x.a, .int .i64 x.n, .int .u64 (u x.v)]
def KFl : RowK Fld where
  ts := 126
  t := 134
  N := 3
  B := 24
  z := .agg #[.int .i64 0, .int .i64 0, .int .u64 0]
  V := fldC
  pos := by decide
  small := by decide
  size := fun _ => rfl
  one := fun q v hv => by
    simp [fldC] at hv
    rcases hv with rfl | rfl | rfl <;> rfl
  under := Try.underlying126
  info := by kernel_rfl
  zs := rfl
/-- append to a block of one's own, of a row. -/
theorem pushB_opc {ft : List Nat} {w0 W : World} {E : Env} {ρ : Operand → Value} {o : Oper} {s x : Operand} (ho : o.op = .call ⟨.builtin .append, #[s, x], #[KFl.ts, KFl.ts]⟩) {i k n m d b : Nat} {xs : List Value} {L M : List Fld} {g : Option Addr} {rest : BL} (x0 : Env → Bx) (h0 : x0 E = ⟨b, 0, KFl.t, xs, .own⟩)
    (hL : xs = rcells KFl L) (hx : [ρ s, ρ x] = [.slice (some ⟨b, 0, none⟩) n n, .slice g m d]) (hk : Keep ft w0 W) (hp : (x0 E).Holds ft w0 W) (hsrc : OwnP KFl.t KFl.N g m d (rcells KFl M) W) (hn : n = L.length) (hm : m = M.length) (hlen : n + m ≤ 1000000) :
    ∃ r q w', (execOp ρ o).run Try.prog W = .ok (.value r) w' ∧ GPost ft w0 k (fun E => .slice (E.f k) (L ++ M).length (E.b k)) ((i, x0) :: rest) [(i, fun _ => noBx)] [fun E => OwnP KFl.t KFl.N (E.f k) (L ++ M).length (E.b k) (rcells KFl (L ++ M))] E W (.returned r) w' q := by
  simp only [List.cons.injEq, and_true] at hx
  subst hL hn hm
  have hb := hp
  rw [h0] at hb
  obtain ⟨f', c', w', hr, hown', hg, hat⟩ := run_append_row (P := Try.prog) (W := W) KFl.ts o.type KFl.t KFl.under KFl.info KFl.zs KFl.pos KFl.small (own_lit hb (rcells_length KFl L) (by omega)) hsrc (fun v hv => rcells_one KFl M v hv) hlen
  rw [← rcells_append, ← List.length_append] at hown'
  obtain ⟨q, hq⟩ := GPost.grownB (k := k) (i := i) (v := fun E => .slice (E.f k) (L ++ M).length (E.b k)) (rest := rest) (e := .returned (.slice f' (L ++ M).length c')) x0 h0 hk hp hown' hg hat (by rw [set_f, set_c])
  refine ⟨.slice f' (L ++ M).length c', q, w', ?_, hq⟩
  rw [List.length_append]
  unfold execOp
  simp only [ho, resolve, invoke, builtin, Sem.run_bind, Sem.run_pure, Result.andThen_ok, List.map_toArray, List.map_cons, List.map_nil, hx.1, hx.2, hr]
theorem flds_rows {W : World} {f : Option Addr} {L : List Fld} (h : RowsAt KFl W f L) (hs : SmallL L) : FldsAt W f L.length (nth L) := fun j hj => by
  have hg : L[j]? = some (nth L j) := by rw [nth_get (List.getElem?_eq_getElem hj)]; exact List.getElem?_eq_getElem hj
  obtain ⟨b, o, hf, hr⟩ := h j _ hg
  obtain ⟨b1, b2, b3, b4⟩ := hs _ (List.mem_of_getElem? hg)
  exact ⟨b, o, hf, hr.lt, hr.get0 _ (by decide) rfl, hr.get 1 _ (by decide) rfl, hr.get 2 _ (by decide) rfl, by omega, by omega, by omega, by omega⟩
/-- A row of fields that is handed out. -/
def RowL (w : World) (L : List Fld) (e : Ending) (w' : World) : Prop := ∃ f c, e = .returned (.slice f L.length c) ∧ OwnR KFl w' w.heap.size (.slice f L.length c) L ∧ Below w.heap.size w w'
theorem own_litR {w W : World} {b n : Nat} {L : List Fld} {xs : List Value} (h : (⟨b, 0, KFl.t, xs, .own⟩ : Bx).Holds [] w W) (hL : xs = rcells KFl L) (hn : n = L.length) (hl : n ≤ 1000000) : OwnR KFl W w.heap.size (.slice (some ⟨b, 0, none⟩) n n) L := by
  subst hL hn
  exact ⟨rcells_length KFl L, .inr ⟨b, L.length, (rcells KFl L).toArray, rfl, h.2.1.resolve_left (by simp), h.2.2, Nat.le_refl _, by unfold maxLen; omega, by simp [rcells_length KFl L], by simp [← rcells_length KFl L]⟩⟩
end Go.Proofs.Ytbhnjaajkolklaa
