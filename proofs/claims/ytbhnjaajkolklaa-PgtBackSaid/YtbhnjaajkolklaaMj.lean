/- Stage 16: the reference: There, CopyNumbers, way, put, free, Unmap: contracts. Stage 16: the reference: Unmap, Split, Map: contracts. Stage 16: the reference: Map: contract. Stage 16: the reference: Map, Split whole; All; EqMaps; num: contracts. -/
import Derived.Test.YtbhnjaajkolklaaMf
set_option linter.all false
namespace Go.Proofs.Ytbhnjaajkolklaa
section
open Go.ChangeShapes Go.WideShapes Go.ChangeAt Go.RowKit Go.Deep

def EndMm (w : World) (n : Nat) (X : Nat → BitVec 64) (e : Ending) (w' : World) : Prop :=
  ∃ f c, e = .returned (.agg #[.slice f n c]) ∧ OwnW w' w.heap.size (.slice f n c) n X ∧ Below w.heap.size w w'
theorem EndMm.post {n k : Nat} {X : Nat → BitVec 64} {ft : List Nat} {w0 W w' : World} {pre : BL} {E : Env} {e : Ending} (h : EndMm W n X e w') (hk : Keep ft w0 W) :
    ∃ q, GPost ft w0 k (fun E => .agg #[.slice (E.f k) n (E.b k)]) pre [] [fun E => OwnP 45 1 (E.f k) n (E.b k) (wcells X n)] E W e w' q := by
  obtain ⟨f, c, he, h1, h2⟩ := h
  exact GPost.own1 hk h2 h1 (by rw [he, set_f, set_c])
end
section
open Go.ChangeShapes Go.WideShapes Go.ChangeAt Go.RowKit Go.Deep

end
section
open Go.ChangeShapes Go.WideShapes Go.ChangeAt Go.RowKit Go.Deep

end
section
open Go.ChangeShapes Go.WideShapes Go.ChangeAt Go.RowKit Go.Deep

theorem pspl_any (f : Option Addr) (l c : Nat) (X : Nat → BitVec 64) (root mid : Int) (F : List Int) (g : Option Addr) (n k : Nat) (z : WayR) (w : World) (hX : WordsAt w f l X) (hl : l ≤ 100000) (hlc : l ≤ c) (hG : IntsAt w g F) (hn : n = F.length) (hn5 : n ≤ 100000) (hnk : n ≤ k) (hk0 : g = none → k = 0) (hz : wayA l X root mid 3 = z) :
    Calls Try.prog 10 #[.agg #[.slice f l c], .int .i64 root, .slice g n k, .int .i64 mid] w (EndMF w (splA l X z F mid)) := by
  rcases F with _ | ⟨f0, F9⟩
  · obtain rfl : n = 0 := hn
    exact pspl0_any f l c X root mid g k z w hX hl hlc hG hk0 hz
  · exact pspl1_any f l c X root mid f0 F9 g n k z w hX hl hlc hG hn hn5 hnk hk0 hz
def EndAllB (w : World) (q : List (Int × Int) × Bool) (e : Ending) (w' : World) : Prop :=
  ∃ f c, e = .returned (.tuple #[.slice f q.1.length c, .bool q.2]) ∧ OwnR KMm w' w.heap.size (.slice f q.1.length c) q.1 ∧ Below w.heap.size w w'
end
end Go.Proofs.Ytbhnjaajkolklaa
