/- The engine: loops over a row of structs that is handed in; what a loop tells besides blocks. The engine: rows of structs of the call's own, as facts: what they say; append of one struct. Engine: append to a block of one's own; rows of fields. -/
import Derived.Test.YtbhnjaajkolklaaGreatEo
import Derived.Test.YtbhnjaajkolklaaGreatRow
import Derived.Test.YtbhnjaajkolklaaGreatOwnL
set_option linter.all false
namespace Go.Proofs.YtbhnjaajkolklaaGreat
section
open Go.ChangeShapes Go.WideShapes Go.ChangeAt Go.RowKit Go.Deep

/-- An element of a row, beside what is known. -/
theorem Fits.rows {Q : Type} {K : RowK Q} {ft : List Nat} {w0 w : World} {h : List Bx} {f : Option Addr} {L : List Q} {j : Nat} {q : Q} (H : Fits ft w0 h w) (hX : RowsAt K w0 f L) (hq : L[j]? = some q) (hV : (K.V q).size ≤ K.N) (hb : ∀ g, f = some g → g.block ∉ ft) :
    ∃ b o, f = some ⟨b, o, none⟩ ∧ Fits ft w0 (h ++ [⟨b, o + j * K.N, K.t, (K.V q).toList, .row⟩]) w := by
  obtain ⟨b, o, rfl, hr⟩ := hX j q hq
  have hlt : b < w0.heap.size := hr.lt
  have hbf : b ∉ ft := hb _ rfl
  refine ⟨b, o, rfl, H.row (Nat.lt_of_lt_of_le hlt H.keep.size) (fun i v hi => ?_) fun i x hi hx => ?_⟩
  · have hi' : (K.V q)[i]? = some v := by simpa using hi
    exact (World.cell?_of_block (w := w0) (a := ⟨b, o + j * K.N + i, none⟩) (H.keep.block b hlt hbf)).trans (hr.get i v (Nat.lt_of_lt_of_le (Array.getElem?_eq_some_iff.1 hi').1 hV) hi')
  · rcases (H.all i x hi).fpl hx with h | h
    · exact hbf h
    · omega
/-- What is known besides blocks. -/
theorem Fits.pure {ft : List Nat} {w0 w : World} {h : List Bx} {P : Prop} (H : Fits ft w0 h w) (hP : P) : Fits ft w0 (h ++ [⟨0, 0, 0, [], .fact none fun _ => P⟩]) w := by
  have key : ∀ {i : Nat} {x : Bx}, (h ++ [⟨0, 0, 0, [], .fact none fun _ => P⟩])[i]? = some x → h[i]? = some x ∨ x = ⟨0, 0, 0, [], .fact none fun _ => P⟩ := fun {i x} hi => by
    rw [List.getElem?_append] at hi
    split at hi
    · exact Or.inl hi
    · have hi' : i - h.length = 0 := by
        have := (List.getElem?_eq_some_iff.1 hi).1
        simpa using this
      rw [hi'] at hi
      exact Or.inr (by simpa using hi.symm)
  refine ⟨H.keep, fun i x hi => ?_, fun i j x y hi hj hij c hx hy => ?_⟩
  · rcases key hi with h | rfl
    · exact H.all i x h
    · exact ⟨rfl, (fun _ h => nomatch h), hP, fun _ _ h _ _ => h⟩
  · rcases key hi with h1 | rfl
    · rcases key hj with h2 | rfl
      · exact H.ne i j x y h1 h2 hij c hx hy
      · cases hy
    · cases hx
/-- Some of one's own blocks are to be read alone. -/
def roAt : List Bool → List Bx → List Bx
  | b :: l, x :: h => (match b with | true => x.ro | false => x) :: roAt l h
  | _, h => h
theorem Bx.ro_rd {x : Bx} {c : Nat} (h : x.ro.rd c) : x.rd c := by
  obtain ⟨b, o, t, cs, k⟩ := x
  cases k <;> first | exact h | cases h
theorem roAt_get : ∀ {l : List Bool} {h : List Bx} {i : Nat} {z : Bx}, (roAt l h)[i]? = some z → ∃ x, h[i]? = some x ∧ (z = x ∨ z = x.ro)
  | [], h, i, z, hz => ⟨z, by cases h <;> exact hz, Or.inl rfl⟩
  | b :: l, [], i, z, hz => by simp [roAt] at hz
  | b :: l, x :: h, 0, z, hz => by
    refine ⟨x, rfl, ?_⟩
    cases b <;> simp [roAt] at hz <;> simp [hz]
  | b :: l, x :: h, i + 1, z, hz => by
    simp only [roAt, List.getElem?_cons_succ] at hz ⊢
    exact roAt_get hz
theorem Fits.roAt {ft : List Nat} {w0 w : World} {h : List Bx} (H : Fits ft w0 h w) (l : List Bool) : Fits ft w0 (roAt l h) w := by
  refine ⟨H.keep, fun i z hz => ?_, fun i j z y hz hy hij c hzc hyc => ?_⟩
  · obtain ⟨x, hx, rfl | rfl⟩ := roAt_get hz
    · exact H.all i _ hx
    · have hx' := H.ro.all i x.ro (by rw [List.getElem?_map, hx]; rfl)
      obtain ⟨b, o, t, cs, k⟩ := x
      cases k <;> exact hx'
  · obtain ⟨x, hx, hxz⟩ := roAt_get hz
    obtain ⟨u, hu, huy⟩ := roAt_get hy
    have hx' : x.fp c := by
      rcases hxz with rfl | rfl
      · exact hzc
      · obtain ⟨b, o, t, cs, k⟩ := x
        cases k <;> cases hzc
    have hu' : u.rd c := by
      rcases huy with rfl | rfl
      · exact hyc
      · exact Bx.ro_rd hyc
    exact H.ne i j x u hx hu hij c hx' hu'
theorem RowsAt.ne {Q : Type} {K : RowK Q} {w : World} {f : Option Addr} {L : List Q} {b : Nat} (h : RowsAt K w f L) (hl : 0 < L.length) (hb : b ∈ ([] : List Nat) ∨ w.heap.size ≤ b) : ∀ g, f = some g → g.block ≠ b := fun g hg => by
  obtain ⟨b1, o1, rfl, hr⟩ := h 0 L[0] (List.getElem?_eq_getElem hl)
  obtain rfl := Option.some.inj hg
  have := hr.lt
  rcases hb with hb | hb
  · cases hb
  · show b1 ≠ b
    omega
/-- A piece that turned nothing, and tells something. -/
theorem CPost.told {n : Nat} {ft : List Nat} {w0 W w' : World} {k : Nat} {pre : BL} {T' : Env → Sl} {E : Env} {a' : Act} {P : Prop} (hP : P) (hk : Keep ft w0 W) (hk' : Keep [] W w') (hT : Has n (T' (E.set k (0, none))) a') : ∃ q, CPost n ft w0 k pre T' [] [fun _ => .one fun _ => P] E W a' w' q :=
  ⟨fun _ => (0, none), hT, rfl, fun _ hp => (by cases hp), hk.under hk' (fun _ h => by cases h), hk'.size, fun j hj _ => hk'.block j hj (by simp), fun j p hj => by
    obtain ⟨rfl, rfl⟩ : 0 = j ∧ (fun _ : Env => FV.one fun _ => P) = p := by
      cases j with
      | zero => exact ⟨rfl, Option.some.inj hj⟩
      | succ j => simp at hj
    exact ⟨hP, fun _ _ h _ _ => h, fun b hb => nomatch hb⟩⟩
end
section
open Go.ChangeShapes Go.WideShapes Go.ChangeAt Go.RowKit Go.Deep

/-- A row that is a fact lies above what was there. -/
theorem own_base {w W : World} {e s n c : Nat} {f : Option Addr} {xs : List Value} (h : (⟨0, 0, 0, [], .fact (f.map (·.block)) (OwnP e s f n c xs)⟩ : Bx).Holds [] w W) : W.ownsRow w.heap.size e s (.slice f n c) n xs := by
  obtain ⟨_, hb, hP, _⟩ := h
  refine ⟨hP.1, ?_⟩
  rcases hP.2 with hn | ⟨g, cap, cur, hv, _, rest⟩
  · exact .inl hn
  · refine .inr ⟨g, cap, cur, hv, ?_, rest⟩
    injection hv with hf
    exact (hb g (by rw [hf]; rfl)).1.resolve_left (by simp)
theorem own_rows {Q : Type} {K : RowK Q} {ft : List Nat} {w W : World} {L : List Q} {c : Nat} {f : Option Addr} (h : (⟨0, 0, 0, [], .fact (f.map (·.block)) (OwnP K.t K.N f L.length c (rcells K L))⟩ : Bx).Holds ft w W) : RowsAt K W f L :=
  OwnR.rows (show OwnR K W 0 (.slice f L.length c) L from h.2.2.1) |>.2
/-- A row that is made, seen by the caller. -/
theorem row_post {Q : Type} {K : RowK Q} {ft : List Nat} {w0 W w' : World} {k : Nat} {pre : BL} {E : Env} {e : Ending} {L : List Q} (hk : Keep ft w0 W) (h : ∃ f' c', e = .returned (.slice f' L.length c') ∧ OwnR K w' W.heap.size (.slice f' L.length c') L ∧ Below W.heap.size W w') :
    ∃ q, GPost ft w0 k (fun E => .slice (E.f k) L.length (E.b k)) pre [] [fun E => OwnP K.t K.N (E.f k) L.length (E.b k) (rcells K L)] E W e w' q := by
  obtain ⟨f', c', he, h1, hb⟩ := h
  exact GPost.own1 hk hb h1 (by rw [he, set_f, set_c])
end
section
open Go.ChangeShapes Go.WideShapes Go.ChangeAt Go.RowKit Go.Deep

theorem GPost.grownB {ft : List Nat} {w0 W w' : World} {k i : Nat} {v : Env → Value} {rest : BL} {E : Env} {e : Ending} {t t0 : TypeId} {size n' c' b : Nat} {f' : Option Addr} {xs' cs : List Value} (x0 : Env → Bx) (h0 : x0 E = ⟨b, 0, t0, cs, .own⟩) (hk : Keep ft w0 W) (hp : (x0 E).Holds ft w0 W)
    (hown : OwnP t size f' n' c' xs' w') (hg : W.grownBy w' (some b)) (hat : ∀ b', f'.map (·.block) = some b' → some b = some b' ∨ W.heap.size ≤ b') (he : e = .returned (v (E.set k (c', f')))) :
    ∃ q, GPost ft w0 k v ((i, x0) :: rest) [(i, fun _ => noBx)] [fun E => OwnP t size (E.f k) n' (E.b k) xs'] E W e w' q := by
  have hfp : ∀ {b'}, some b = some b' → (x0 E).fp b' := fun h => by rw [h0]; exact h
  have hrd : ∀ {b'}, some b = some b' → (x0 E).rd b' := fun h => by rw [h0]; exact h
  rw [h0] at hp
  obtain ⟨_, hblk, _⟩ := hp
  refine ⟨fun _ => (c', f'), he, fun p hpp => ?_, ⟨hg.os.trans hk.os, hg.tape.trans hk.tape, hg.output.trans hk.output, Nat.le_trans hk.size hg.size, fun j hj hn => (hg.block j (Nat.lt_of_lt_of_le hj hk.size) fun hh => ?_).trans (hk.block j hj hn)⟩, hg.size, fun j hj hn => hg.block j hj fun hh => ?_, fun j p hpp => ?_⟩
  · obtain rfl := List.mem_singleton.1 hpp
    rfl
  · obtain rfl := Option.some.inj hh
    rcases hblk with h | h
    · exact hn h
    · exact absurd hj (Nat.not_lt.2 h)
  · exact hn (i, x0) (List.mem_cons_self ..) (by simp) (hrd hh.symm)
  · obtain ⟨rfl, rfl⟩ : 0 = j ∧ _ = p := by
      cases j with
      | zero => exact ⟨rfl, Option.some.inj hpp⟩
      | succ j => simp at hpp
    have e1 : OwnP t size ((E.set k (c', f')).f k) n' ((E.set k (c', f')).b k) xs' = OwnP t size f' n' c' xs' := by rw [set_f, set_c]
    refine ⟨(congrFun e1 w').mpr hown, (show Local (f'.map fun x : Addr => x.block) _ from (congrArg (Local (f'.map fun x : Addr => x.block)) e1).mpr (OwnP.local _ _ _ _ _ _)), fun j hj => ⟨hown.lt j hj, ?_⟩⟩
    rcases hat j hj with h | h
    · exact ⟨Or.inr ⟨_, List.mem_cons_self .., hfp h, by simp, fun p' hp' _ => by obtain rfl := List.mem_singleton.1 hp'; rfl⟩, fun j' h1 h2 => by simp at h1; omega⟩
    · exact ⟨Or.inl h, fun j' h1 h2 => by simp at h1; omega⟩
/-- A block of one's own is a row. -/
theorem own_lit {ft : List Nat} {w0 W : World} {b n size : Nat} {e : TypeId} {xs : List Value} (h : (⟨b, 0, e, xs, .own⟩ : Bx).Holds ft w0 W) (hl : xs.length = n * size) (hn : n ≤ 1000000) : OwnP e size (some ⟨b, 0, none⟩) n n xs W :=
  ⟨hl, .inr ⟨b, n, xs.toArray, rfl, Nat.zero_le _, h.2.2, Nat.le_refl _, by unfold maxLen; omega, by simp [hl], by simp [← hl]⟩⟩
/-- The cells of a field. -/
def fldC (x : Fld) : Array Value := #[.int .i64 x.a, .int .i64 x.n, .int .u64 (u x.v)]
def KFl : RowK Fld where
  ts := 112
  t := 110
  N := 3
  B := 24
  z := .agg #[.int .i64 0, .int .i64 0, .int .u64 0]
  V := fldC
  pos := by decide
  small := by decide
  size := fun _ => rfl
  one := fun q v hv => by
    simp [fldC] at hv
    rcases hv with rfl | rfl | rfl <;> rfl
  under := Tryz.underlying112
  info := by kernel_rfl
  zs := rfl
/-- append to a block of one's own, of a row. -/
theorem pushB_opc {ft : List Nat} {w0 W : World} {E : Env} {ρ : Operand → Value} {o : Oper} {s x : Operand} (ho : o.op = .call ⟨.builtin .append, #[s, x], #[KFl.ts, KFl.ts]⟩) {i k n m d b : Nat} {xs : List Value} {L M : List Fld} {g : Option Addr} {rest : BL} (x0 : Env → Bx) (h0 : x0 E = ⟨b, 0, KFl.t, xs, .own⟩)
    (hL : xs = rcells KFl L) (hx : [ρ s, ρ x] = [.slice (some ⟨b, 0, none⟩) n n, .slice g m d]) (hk : Keep ft w0 W) (hp : (x0 E).Holds ft w0 W) (hsrc : OwnP KFl.t KFl.N g m d (rcells KFl M) W) (hn : n = L.length) (hm : m = M.length) (hlen : n + m ≤ 1000000) :
    ∃ r q w', (execOp ρ o).run Tryz.prog W = .ok (.value r) w' ∧ GPost ft w0 k (fun E => .slice (E.f k) (L ++ M).length (E.b k)) ((i, x0) :: rest) [(i, fun _ => noBx)] [fun E => OwnP KFl.t KFl.N (E.f k) (L ++ M).length (E.b k) (rcells KFl (L ++ M))] E W (.returned r) w' q := by
  simp only [List.cons.injEq, and_true] at hx
  subst hL hn hm
  have hb := hp
  rw [h0] at hb
  obtain ⟨f', c', w', hr, hown', hg, hat⟩ := run_append_row (P := Tryz.prog) (W := W) KFl.ts o.type KFl.t KFl.under KFl.info KFl.zs KFl.pos KFl.small (own_lit hb (rcells_length KFl L) (by omega)) hsrc (fun v hv => rcells_one KFl M v hv) hlen
  rw [← rcells_append, ← List.length_append] at hown'
  obtain ⟨q, hq⟩ := GPost.grownB (k := k) (i := i) (v := fun E => .slice (E.f k) (L ++ M).length (E.b k)) (rest := rest) (e := .returned (.slice f' (L ++ M).length c')) x0 h0 hk hp hown' hg hat (by rw [set_f, set_c])
  refine ⟨.slice f' (L ++ M).length c', q, w', ?_, hq⟩
  rw [List.length_append]
  unfold execOp
  simp only [ho, resolve, invoke, builtin, Sem.run_bind, Sem.run_pure, Result.andThen_ok, List.map_toArray, List.map_cons, List.map_nil, hx.1, hx.2, hr]
theorem flds_rows {W : World} {f : Option Addr} {L : List Fld} (h : RowsAt KFl W f L) (hs : SmallL L) : FldsAt W f L.length (nth L) := fun j hj => by
  have hg : L[j]? = some (nth L j) := by rw [nth_get (List.getElem?_eq_getElem hj)]; exact List.getElem?_eq_getElem hj
  obtain ⟨b, o, hf, hr⟩ := h j _ hg
  obtain ⟨b1, b2, b3, b4⟩ := hs _ (List.mem_of_getElem? hg)
  exact ⟨b, o, hf, hr.lt, hr.get0 _ (by decide) rfl, hr.get 1 _ (by decide) rfl, hr.get 2 _ (by decide) rfl, by omega, by omega, by omega, by omega⟩
/-- A row of fields that is handed out. -/
def RowL (w : World) (L : List Fld) (e : Ending) (w' : World) : Prop := ∃ f c, e = .returned (.slice f L.length c) ∧ OwnR KFl w' w.heap.size (.slice f L.length c) L ∧ Below w.heap.size w w'
theorem own_litR {w W : World} {b n : Nat} {L : List Fld} {xs : List Value} (h : (⟨b, 0, KFl.t, xs, .own⟩ : Bx).Holds [] w W) (hL : xs = rcells KFl L) (hn : n = L.length) (hl : n ≤ 1000000) : OwnR KFl W w.heap.size (.slice (some ⟨b, 0, none⟩) n n) L := by
  subst hL hn
  exact ⟨rcells_length KFl L, .inr ⟨b, L.length, (rcells KFl L).toArray, rfl, h.2.1.resolve_left (by simp), h.2.2, Nat.le_refl _, by unfold maxLen; omega, by simp [rcells_length KFl L], by simp [← rcells_length KFl L]⟩⟩
/-- append to a row of fields, of a row. -/
theorem pushF_opc {ft : List Nat} {w0 W : World} {E : Env} {ρ : Operand → Value} {o : Oper} {s x : Operand} (ho : o.op = .call ⟨.builtin .append, #[s, x], #[KFl.ts, KFl.ts]⟩) {i k m d : Nat} {L M : List Fld} {g : Option Addr} {rest : BL} (x0 : Env → Bx) (h0 : x0 = ownBx i KFl.t KFl.N L.length (rcells KFl L))
    (hx : [ρ s, ρ x] = [.slice (E.f i) L.length (E.b i), .slice g m d]) (hk : Keep ft w0 W) (hp : (x0 E).Holds ft w0 W) (hsrc : OwnP KFl.t KFl.N g m d (rcells KFl M) W) (hm : m = M.length) (hlen : L.length + m ≤ 1000000) :
    ∃ r q w', (execOp ρ o).run Tryz.prog W = .ok (.value r) w' ∧ GPost ft w0 k (fun E => .slice (E.f k) (L ++ M).length (E.b k)) ((i, x0) :: rest) [(i, fun _ => noBx)] [fun E => OwnP KFl.t KFl.N (E.f k) (L ++ M).length (E.b k) (rcells KFl (L ++ M))] E W (.returned r) w' q := by
  subst h0 hm
  rw [rcells_append, List.length_append]
  exact pushR_opc KFl.ts KFl.t KFl.under KFl.info KFl.zs KFl.pos KFl.small ho i k L.length M.length (rcells KFl L) (rcells KFl M) (ownBx i KFl.t KFl.N L.length (rcells KFl L)) rfl hx hk hp hsrc (fun v hv => rcells_one KFl M v hv) hlen
end
end Go.Proofs.YtbhnjaajkolklaaGreat
