/- The engine: blocks that a callee makes and hands out by a pointer; blocks that a callee turns. -/
import Derived.Test.YtlflfpohglgopaaEc
import Derived.Test.YtlflfpohglgopaaEl
set_option linter.all false
namespace Go.Proofs.Ytlflfpohglgopaa
open Go.ChangeShapes Go.WideShapes Go.ChangeAt Go.RowKit Go.Deep

/-- A block that was handed out. -/
def OwnB (t : TypeId) (cs : List Value) (f : Option Addr) (b : Nat) (W : World) : Prop := f.map (·.block) = some b ∧ W.heap[b]? = some (.cells cs.toArray t)
theorem OwnB.local (t : TypeId) (cs : List Value) (f : Option Addr) (b : Nat) : Local (f.map (·.block)) (OwnB t cs f b) := by
  intro w w' h hb _
  exact ⟨h.1, (hb b h.1).trans h.2⟩
/-- What a call leaves that makes a block and hands it out. -/
def BoxEnd (t : TypeId) (cs : List Value) (w : World) (e : Ending) (w' : World) : Prop :=
  ∃ b, e = .returned (.pointer (some ⟨b, 0, none⟩)) ∧ w.heap.size ≤ b ∧ w'.heap[b]? = some (.cells cs.toArray t) ∧ Below w.heap.size w w'
theorem BoxEnd.post {t : TypeId} {cs : List Value} {ft : List Nat} {w0 W w' : World} {k : Nat} {pre : BL} {E : Env} {e : Ending} (h : BoxEnd t cs W e w') (hk : Keep ft w0 W) :
    ∃ q, GPost ft w0 k (fun E => .pointer (some ⟨E.b k, 0, none⟩)) pre [] [fun E => OwnB t cs (E.f k) (E.b k)] E W e w' q := by
  obtain ⟨b, he, hs, hb, hw⟩ := h
  refine GPost.made (fun _ => (b, some ⟨b, 0, none⟩)) hk hw ?_ fun j p hj => ?_
  · show e = .returned (.pointer (some ⟨(E.set k (b, some ⟨b, 0, none⟩)).b k, 0, none⟩))
    rw [set_c]
    exact he
  · obtain ⟨rfl, rfl⟩ : 0 = j ∧ _ = p := by
      cases j with
      | zero => exact ⟨rfl, Option.some.inj hj⟩
      | succ j => simp at hj
    have e1 : OwnB t cs ((E.set k (b, some ⟨b, 0, none⟩)).f k) ((E.set k (b, some ⟨b, 0, none⟩)).b k) = OwnB t cs (some ⟨b, 0, none⟩) b := by rw [set_f, set_c]
    refine ⟨(congrFun e1 w').mpr ⟨rfl, hb⟩, (congrArg (Local (some b)) e1).mpr (OwnB.local t cs (some ⟨b, 0, none⟩) b), fun c hc => ?_⟩
    obtain rfl := Option.some.inj hc
    exact ⟨(Array.getElem?_eq_some_iff.1 hb).1, hs, fun j' h1 h2 => by simp at h1; omega⟩
/-- One block that is to be written. -/
theorem Fits.box {W : World} {b : Nat} {t : TypeId} {cs : List Value} (h : W.heap[b]? = some (.cells cs.toArray t)) : Fits [b] W [⟨b, 0, t, cs, .own⟩] W := by
  refine ⟨Keep.refl _ _, fun i x hi => ?_, fun i j x y hi hj hij => ?_⟩
  · cases i with
    | zero =>
      obtain rfl : (⟨b, 0, t, cs, .own⟩ : Bx) = x := by simpa using hi
      exact ⟨rfl, Or.inl (List.mem_singleton.2 rfl), h⟩
    | succ i => simp at hi
  · cases i with
    | zero =>
      cases j with
      | zero => exact absurd rfl hij
      | succ j => simp at hj
    | succ i => simp at hi
/-- One block that is to be read alone. -/
theorem Fits.boxR {W : World} {b : Nat} {t : TypeId} {cs : List Value} (h : W.heap[b]? = some (.cells cs.toArray t)) : Fits [] W [⟨b, 0, t, cs, .row⟩] W := by
  have := (Fits.box h).ro
  exact this
/-- A row more, which is none of those that may be written. -/
theorem Fits.row {ft : List Nat} {w0 w : World} {h : List Bx} {b o : Nat} {t : TypeId} {cs : List Value} (H : Fits ft w0 h w) (hlt : b < w.heap.size) (hc : ∀ (j : Nat) (v : Value), cs[j]? = some v → w.cell? ⟨b, o + j, none⟩ = some v) (hn : ∀ (i : Nat) (x : Bx), h[i]? = some x → x.fp ≠ some b) :
    Fits ft w0 (h ++ [⟨b, o, t, cs, .row⟩]) w := by
  have key : ∀ {i : Nat} {x : Bx}, (h ++ [⟨b, o, t, cs, .row⟩])[i]? = some x → h[i]? = some x ∨ (i = h.length ∧ x = ⟨b, o, t, cs, .row⟩) := fun {i x} hi => by
    rw [List.getElem?_append] at hi
    split at hi
    · exact Or.inl hi
    · rename_i hl
      have hi' : i - h.length = 0 := by
        have := (List.getElem?_eq_some_iff.1 hi).1
        simpa using this
      rw [hi'] at hi
      exact Or.inr ⟨by omega, by simpa using hi.symm⟩
  refine ⟨H.keep, fun i x hi => ?_, fun i j x y hi hj hij c hx hy => ?_⟩
  · rcases key hi with h | ⟨_, rfl⟩
    · exact H.all i x h
    · exact ⟨hlt, hc⟩
  · rcases key hi with h1 | ⟨_, rfl⟩
    · rcases key hj with h2 | ⟨_, rfl⟩
      · exact H.ne i j x y h1 h2 hij c hx hy
      · exact hn i x h1 (hx.trans hy.symm)
    · cases hx
/-- What a call leaves that turns one block. -/
theorem GPost.box1 {ft : List Nat} {w0 W w' : World} {k i b : Nat} {t : TypeId} {cs : List Value} {v : Env → Value} {rest : BL} {x0 x1 : Env → Bx} {E : Env} {e : Ending} (hk : Keep ft w0 W) (hp : ∀ p ∈ (i, x0) :: rest, (p.2 E).Holds ft w0 W) (h0 : (x0 E).fp = some b) (h1 : x1 E = ⟨b, 0, t, cs, .own⟩) (hr : ∀ p ∈ rest, p.1 ≠ i)
    (he : e = .returned (v E)) (hF : Fits [b] W [⟨b, 0, t, cs, .own⟩] w') : ∃ q, GPost ft w0 k v ((i, x0) :: rest) [(i, x1)] [] E W e w' q := by
  refine GPost.fin (ft := [b]) (fun _ => (0, none)) hk hp (fun c hc => ?_) (fun p hp' p' hp'' hpe => ?_) he ?_
  · obtain rfl := List.mem_singleton.1 hc
    exact ⟨_, List.mem_cons_self .., h0, by simp⟩
  · obtain rfl := List.mem_singleton.1 hp''
    rcases List.mem_cons.1 hp' with rfl | hp'
    · refine Or.inr ?_
      show (x1 E).fp = (x0 E).fp
      rw [h1, h0]
      rfl
    · exact absurd hpe.symm (hr p hp')
  · show Fits [b] W [x1 E] w'
    rw [h1]
    exact hF
/-- What a piece leaves that turns one block. -/
theorem CPost.box1 {n : Nat} {ft : List Nat} {w0 W w' : World} {k i b : Nat} {t : TypeId} {cs : List Value} {T' : Env → Sl} {rest : BL} {x0 x1 : Env → Bx} {E : Env} {a' : Act} (hk : Keep ft w0 W) (hp : ∀ p ∈ (i, x0) :: rest, (p.2 E).Holds ft w0 W) (h0 : (x0 E).fp = some b) (h1 : x1 E = ⟨b, 0, t, cs, .own⟩) (hr : ∀ p ∈ rest, p.1 ≠ i)
    (hT : Has n (T' E) a') (hF : Fits [b] W [⟨b, 0, t, cs, .own⟩] w') : ∃ q, CPost n ft w0 k ((i, x0) :: rest) T' [(i, x1)] [] E W a' w' q := by
  obtain ⟨q, hq⟩ := GPost.box1 (k := k) (v := fun _ => undef) (e := .returned undef) hk hp h0 h1 hr rfl hF
  exact ⟨q, hT, hq⟩
/-- The blocks as a piece sees them: each may be written that may be. -/
theorem Fits.holds {ft : List Nat} {w0 W : World} {pre : BL} {E : Env} (H : Fits ft w0 (pre.map fun p => p.2 E) W) : ∀ p ∈ pre, (p.2 E).Holds ft w0 W := fun p hp => by
  obtain ⟨i, hi⟩ := List.getElem?_of_mem hp
  exact H.all i _ (by rw [List.getElem?_map, hi]; rfl)
end Go.Proofs.Ytlflfpohglgopaa
