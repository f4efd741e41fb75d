/- The engine: loops over a row of structs that is handed in; what a loop tells besides blocks. The engine: rows of structs of the call's own, as facts: what they say; append of one struct. -/
import Derived.Test.YtbhnjaajkolklaaEo
import Derived.Test.YtbhnjaajkolklaaRow
set_option linter.all false
namespace Go.Proofs.Ytbhnjaajkolklaa
section
open Go.ChangeShapes Go.WideShapes Go.ChangeAt Go.RowKit Go.Deep

/-- An element of a row, beside what is known. -/
theorem Fits.rows {Q : Type} {K : RowK Q} {ft : List Nat} {w0 w : World} {h : List Bx} {f : Option Addr} {L : List Q} {j : Nat} {q : Q} (H : Fits ft w0 h w) (hX : RowsAt K w0 f L) (hq : L[j]? = some q) (hV : (K.V q).size ≤ K.N) (hb : ∀ g, f = some g → g.block ∉ ft) :
    ∃ b o, f = some ⟨b, o, none⟩ ∧ Fits ft w0 (h ++ [⟨b, o + j * K.N, K.t, (K.V q).toList, .row⟩]) w := by
  obtain ⟨b, o, rfl, hr⟩ := hX j q hq
  have hlt : b < w0.heap.size := hr.lt
  have hbf : b ∉ ft := hb _ rfl
  refine ⟨b, o, rfl, H.row (Nat.lt_of_lt_of_le hlt H.keep.size) (fun i v hi => ?_) fun i x hi hx => ?_⟩
  · have hi' : (K.V q)[i]? = some v := by simpa using hi
    exact (World.cell?_of_block (w := w0) (a := ⟨b, o + j * K.N + i, none⟩) (H.keep.block b hlt hbf)).trans (hr.get i v (Nat.lt_of_lt_of_le (Array.getElem?_eq_some_iff.1 hi').1 hV) hi')
  · rcases (H.all i x hi).fpl hx with h | h
    · exact hbf h
    · omega
/-- What is known besides blocks. -/
theorem Fits.pure {ft : List Nat} {w0 w : World} {h : List Bx} {P : Prop} (H : Fits ft w0 h w) (hP : P) : Fits ft w0 (h ++ [⟨0, 0, 0, [], .fact none fun _ => P⟩]) w := by
  have key : ∀ {i : Nat} {x : Bx}, (h ++ [⟨0, 0, 0, [], .fact none fun _ => P⟩])[i]? = some x → h[i]? = some x ∨ x = ⟨0, 0, 0, [], .fact none fun _ => P⟩ := fun {i x} hi => by
    rw [List.getElem?_append] at hi
    split at hi
    · exact Or.inl hi
    · have hi' : i - h.length = 0 := by
        have := (List.getElem?_eq_some_iff.1 hi).1
        simpa using this
      rw [hi'] at hi
      exact Or.inr (by simpa using hi.symm)
  refine ⟨H.keep, fun i x hi => ?_, fun i j x y hi hj hij c hx hy => ?_⟩
  · rcases key hi with h | rfl
    · exact H.all i x h
    · exact ⟨rfl, (fun _ h => nomatch h), hP, fun _ _ h _ _ => h⟩
  · rcases key hi with h1 | rfl
    · rcases key hj with h2 | rfl
      · exact H.ne i j x y h1 h2 hij c hx hy
      · cases hy
    · cases hx
/-- Some of one's own blocks are to be read alone. -/
def roAt : List Bool → List Bx → List Bx
  | b :: l, x :: h => (match b with | true => x.ro | false => x) :: roAt l h
  | _, h => h
theorem Bx.ro_rd {x : Bx} {c : Nat} (h : x.ro.rd c) : x.rd c := by
  obtain ⟨b, o, t, cs, k⟩ := x
  cases k <;> first | exact h | cases h
theorem roAt_get : ∀ {l : List Bool} {h : List Bx} {i : Nat} {z : Bx}, (roAt l h)[i]? = some z → ∃ x, h[i]? = some x ∧ (z = x ∨ z = x.ro)
  | [], h, i, z, hz => ⟨z, by cases h <;> exact hz, Or.inl rfl⟩
  | b :: l, [], i, z, hz => by simp [roAt] at hz
  | b :: l, x :: h, 0, z, hz => by
    refine ⟨x, rfl, ?_⟩
    cases b <;> simp [roAt] at hz <;> simp [hz]
  | b :: l, x :: h, i + 1, z, hz => by
    simp only [roAt, List.getElem?_cons_succ] at hz ⊢
    exact roAt_get hz
theorem Fits.roAt {ft : List Nat} {w0 w : World} {h : List Bx} (H : Fits ft w0 h w) (l : List Bool) : Fits ft w0 (roAt l h) w := by
  refine ⟨H.keep, fun i z hz => ?_, fun i j z y hz hy hij c hzc hyc => ?_⟩
  · obtain ⟨x, hx, rfl | rfl⟩ := roAt_get hz
    · exact H.all i _ hx
    · have hx' := H.ro.all i x.ro (by rw [List.getElem?_map, hx]; rfl)
      obtain ⟨b, o, t, cs, k⟩ := x
      cases k <;> exact hx'
  · obtain ⟨x, hx, hxz⟩ := roAt_get hz
    obtain ⟨u, hu, huy⟩ := roAt_get hy
    have hx' : x.fp c := by
      rcases hxz with rfl | rfl
      · exact hzc
      · obtain ⟨b, o, t, cs, k⟩ := x
        cases k <;> cases hzc
    have hu' : u.rd c := by
      rcases huy with rfl | rfl
      · exact hyc
      · exact Bx.ro_rd hyc
    exact H.ne i j x u hx hu hij c hx' hu'
theorem RowsAt.ne {Q : Type} {K : RowK Q} {w : World} {f : Option Addr} {L : List Q} {b : Nat} (h : RowsAt K w f L) (hl : 0 < L.length) (hb : b ∈ ([] : List Nat) ∨ w.heap.size ≤ b) : ∀ g, f = some g → g.block ≠ b := fun g hg => by
  obtain ⟨b1, o1, rfl, hr⟩ := h 0 L[0] (List.getElem?_eq_getElem hl)
  obtain rfl := Option.some.inj hg
  have := hr.lt
  rcases hb with hb | hb
  · cases hb
  · show b1 ≠ b
    omega
/-- A piece that turned nothing, and tells something. -/
theorem CPost.told {n : Nat} {ft : List Nat} {w0 W w' : World} {k : Nat} {pre : BL} {T' : Env → Sl} {E : Env} {a' : Act} {P : Prop} (hP : P) (hk : Keep ft w0 W) (hk' : Keep [] W w') (hT : Has n (T' (E.set k (0, none))) a') : ∃ q, CPost n ft w0 k pre T' [] [fun _ => .one fun _ => P] E W a' w' q :=
  ⟨fun _ => (0, none), hT, rfl, fun _ hp => (by cases hp), hk.under hk' (fun _ h => by cases h), hk'.size, fun j hj _ => hk'.block j hj (by simp), fun j p hj => by
    obtain ⟨rfl, rfl⟩ : 0 = j ∧ (fun _ : Env => FV.one fun _ => P) = p := by
      cases j with
      | zero => exact ⟨rfl, Option.some.inj hj⟩
      | succ j => simp at hj
    exact ⟨hP, fun _ _ h _ _ => h, fun b hb => nomatch hb⟩⟩
end
section
open Go.ChangeShapes Go.WideShapes Go.ChangeAt Go.RowKit Go.Deep

/-- A row that is a fact lies above what was there. -/
theorem own_base {w W : World} {e s n c : Nat} {f : Option Addr} {xs : List Value} (h : (⟨0, 0, 0, [], .fact (f.map (·.block)) (OwnP e s f n c xs)⟩ : Bx).Holds [] w W) : W.ownsRow w.heap.size e s (.slice f n c) n xs := by
  obtain ⟨_, hb, hP, _⟩ := h
  refine ⟨hP.1, ?_⟩
  rcases hP.2 with hn | ⟨g, cap, cur, hv, _, rest⟩
  · exact .inl hn
  · refine .inr ⟨g, cap, cur, hv, ?_, rest⟩
    injection hv with hf
    exact (hb g (by rw [hf]; rfl)).1.resolve_left (by simp)
theorem own_rows {Q : Type} {K : RowK Q} {ft : List Nat} {w W : World} {L : List Q} {c : Nat} {f : Option Addr} (h : (⟨0, 0, 0, [], .fact (f.map (·.block)) (OwnP K.t K.N f L.length c (rcells K L))⟩ : Bx).Holds ft w W) : RowsAt K W f L :=
  OwnR.rows (show OwnR K W 0 (.slice f L.length c) L from h.2.2.1) |>.2
/-- A row that is made, seen by the caller. -/
theorem row_post {Q : Type} {K : RowK Q} {ft : List Nat} {w0 W w' : World} {k : Nat} {pre : BL} {E : Env} {e : Ending} {L : List Q} (hk : Keep ft w0 W) (h : ∃ f' c', e = .returned (.slice f' L.length c') ∧ OwnR K w' W.heap.size (.slice f' L.length c') L ∧ Below W.heap.size W w') :
    ∃ q, GPost ft w0 k (fun E => .slice (E.f k) L.length (E.b k)) pre [] [fun E => OwnP K.t K.N (E.f k) L.length (E.b k) (rcells K L)] E W e w' q := by
  obtain ⟨f', c', he, h1, hb⟩ := h
  exact GPost.own1 hk hb h1 (by rw [he, set_f, set_c])
end
end Go.Proofs.Ytbhnjaajkolklaa
