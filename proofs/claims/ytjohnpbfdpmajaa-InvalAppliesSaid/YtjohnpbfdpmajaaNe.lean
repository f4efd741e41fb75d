/- One's own slice of numbers lies in no block of structs. -/
import Derived.Test.YtjohnpbfdpmajaaSt
set_option linter.all false
namespace Go.Proofs.Ytjohnpbfdpmajaa
open Go.ChangeShapes Go.WideShapes Go.ChangeAt Go.RowKit Go.Deep

theorem OwnI.ne_box {w : World} {base b : Nat} {v : Value} {L : List Int} {cs : Array Value} {t : TypeId} (h : OwnI w base v L) (hx : BoxAt w b cs t) (ht : t ≠ 3) : v.ownBlock ≠ some b := by
  rcases h.2 with hn | ⟨g, cap, cur, rfl, hbg, hgg, rest⟩
  · rw [hn.1]; simp [Value.ownBlock]
  · intro he
    have he : g = b := by simpa [Value.ownBlock] using he
    subst he
    have h2 := hgg.symm.trans hx.h
    simp at h2
    exact ht h2.2.symm
theorem OwnI.otherN {w : World} {base : Nat} {v : Value} {L : List Int} (h : OwnI w base v L) (p : Addr) (y : Value) (hb : v.ownBlock ≠ some p.block) : OwnI (w.setCell p y) base v L := by
  refine ⟨h.1, ?_⟩
  rcases h.2 with hn | ⟨g, cap, cur, rfl, hbg, hgg, rest⟩
  · exact .inl hn
  · refine .inr ⟨g, cap, cur, rfl, hbg, (Below.heap_setCell w p y g ?_).trans hgg, rest⟩
    rintro rfl
    exact hb rfl
theorem BoxAt.grown {w w' : World} {b : Nat} {cs : Array Value} {t : TypeId} {row : Option Nat} (h : BoxAt w b cs t) (hg : w.grownBy w' row) (hr : row ≠ some b) : BoxAt w' b cs t :=
  ⟨(hg.block b h.lt (fun e => hr e.symm)).trans h.h⟩
end Go.Proofs.Ytjohnpbfdpmajaa
