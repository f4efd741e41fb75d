/- The engine: rows of one's own: a slice that was handed out or appended to, as a predicate of its block; append. -/
import Derived.Test.YtbhnjaajkolklaaGreatEw
import Derived.Laws.AppendOwn
import Derived.Laws.OwnMore
set_option linter.all false
namespace Go.Proofs.YtbhnjaajkolklaaGreat
open Go.ChangeShapes Go.WideShapes Go.ChangeAt Go.RowKit Go.Deep

/-- A slice of one's own: its elements' cells. -/
def OwnP (e : TypeId) (size : Nat) (f : Option Addr) (n c : Nat) (xs : List Value) (W : World) : Prop := W.ownsRow 0 e size (.slice f n c) n xs
theorem OwnP.local (e : TypeId) (size : Nat) (f : Option Addr) (n c : Nat) (xs : List Value) : Local (f.map (·.block)) (OwnP e size f n c xs) := by
  intro w w' h hb _
  refine ⟨h.1, h.2.imp id ?_⟩
  rintro ⟨g, cap, cur, hv, h0, hg, h1⟩
  refine ⟨g, cap, cur, hv, h0, ?_, h1⟩
  injection hv with hf
  rw [hb g (by rw [hf]; rfl)]
  exact hg
theorem OwnP.lt {e : TypeId} {size : Nat} {f : Option Addr} {n c : Nat} {xs : List Value} {W : World} (h : OwnP e size f n c xs W) : ∀ b, f.map (·.block) = some b → b < W.heap.size := fun b hb => by
  obtain ⟨a, rfl, rfl⟩ := Option.map_eq_some_iff.1 hb
  exact (World.ownsRow.lt h _ rfl).2
/-- append, and where the row lies then. -/
theorem run_append_at {P : Program} {W : World} (t ty e : TypeId) {z : Value} {size bytes : Nat} (ht : P.underlying t = some (.slice e)) (hi : (P.info? e).map (fun i => (i.zero, i.size, i.bytes)) = some (some z, size, bytes)) (hzs : z.cells.size = size) (hsz : 0 < size) (hby : bytes ≤ 1000)
    {f : Option Addr} {n c : Nat} {xs : List Value} (hown : OwnP e size f n c xs W) {a : Addr} {m d : Nat} {news : List Value} (hl : news.length = m * size) (hnews : ∀ j u, news[j]? = some u → W.cell? (a.add j) = some u) (h1 : ∀ u ∈ news, u.oneCell' = true) (hlen : n + m ≤ 1000000) (hm : 0 < m) :
    ∃ f' c' w', (Builtin.append_ #[t, t] ty #[.slice f n c, .slice (some a) m d]).run P W = .ok (.slice f' (n + m) c') w' ∧ OwnP e size f' (n + m) c' (xs ++ news) w' ∧ W.grownBy w' (f.map (·.block)) ∧ ∀ b, f'.map (·.block) = some b → f.map (·.block) = some b ∨ W.heap.size ≤ b := by
  obtain ⟨i, hq, hqz⟩ := Option.map_eq_some_iff.1 hi
  obtain ⟨hz0, hz1, hz2⟩ : i.zero = some z ∧ i.size = size ∧ i.bytes = bytes := by
    simp only [Prod.mk.injEq] at hqz
    exact hqz
  have hb : (n + m) * bytes ≤ 140737488355328 := Nat.le_trans (Nat.mul_le_mul hlen hby) (by decide)
  obtain ⟨v', w', hr, ho, hg, hn⟩ := run_append_own (P := P) W 0 t ty e i z size bytes ht hq hz0 hz1 hz2 hzs hsz (.slice f n c) n xs hown a m d news hl hnews h1 (by unfold maxLen; omega) hb (Nat.zero_le _)
  have hform : ∃ f' c', v' = .slice f' (n + m) c' := by
    rcases ho.2 with ⟨rfl, h0⟩ | ⟨g, cap, cur, rfl, _⟩
    · omega
    · exact ⟨_, _, rfl⟩
  obtain ⟨f', c', rfl⟩ := hform
  have hrow : (Value.slice f n c).ownBlock = f.map (·.block) := by cases f <;> rfl
  rw [hrow] at hg
  refine ⟨f', c', w', hr, ho, hg, fun b hb' => ?_⟩
  rcases hown.2 with ⟨hv, h0⟩ | ⟨g, cap, cur, hv, _, hgc, hnc, hcm, hcs, htake⟩
  · injection hv with hf hn0 hc0
    subst hf hn0 hc0
    obtain ⟨v2, w2, hr2, ho2, _, _⟩ := run_append_own (P := P) W W.heap.size t ty e i z size bytes ht hq hz0 hz1 hz2 hzs hsz (.slice none 0 0) 0 xs ⟨hown.1, Or.inl ⟨rfl, rfl⟩⟩ a m d news hl hnews h1 (by unfold maxLen; omega) hb (Nat.le_refl _)
    rw [hr] at hr2
    injection hr2 with e1 e2
    subst e1 e2
    obtain ⟨a', rfl, rfl⟩ := Option.map_eq_some_iff.1 hb'
    exact Or.inr (World.ownsRow.lt ho2 _ rfl).1
  · injection hv with hf hn0 hc0
    subst hf hc0
    by_cases hroom : n + m ≤ c
    · obtain ⟨w2, hr2, _, _⟩ := run_append_fits (P := P) W 0 t ty e i size ht hq hz1 g n c xs hown a m d news hl hnews h1 hroom
      rw [hr] at hr2
      injection hr2 with e1 e2
      injection e1 with e1
      rw [e1] at hb'
      exact Or.inl hb'
    · have hr2 := run_append_grow (P := P) W t ty e i z ht hq hz0 ⟨g, 0, none⟩ n c xs (by rw [hz1]; exact hown.1) (hown.cells (g := g) rfl) a m d news (by rw [hz1]; exact hl) hnews (by omega) (by omega) (growslice_fits (by omega) (by rw [hz2]; exact hb))
      rw [hr] at hr2
      injection hr2 with e1 e2
      injection e1 with e1
      rw [e1] at hb'
      obtain rfl := Option.some.inj hb'
      exact Or.inr (Nat.le_refl _)
theorem set_f (E : Env) (k : Nat) (q : Nat × Option Addr) : (E.set k q).f k = q.2 := by simp [Env.f, Env.set]
theorem set_c (E : Env) (k : Nat) (q : Nat × Option Addr) : (E.set k q).b k = q.1 := by simp [Env.b, Env.set]
/-- The fact of a row of one's own, number i. -/
def ownBx (i : Nat) (e : TypeId) (size n : Nat) (xs : List Value) (E : Env) : Bx := ⟨0, 0, 0, [], .fact ((E.f i).map (·.block)) (OwnP e size (E.f i) n (E.b i) xs)⟩
end Go.Proofs.YtbhnjaajkolklaaGreat
