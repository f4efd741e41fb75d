/- WalkFour: for every argument the law is true (four tables at most are read, each in memory; a hit is in memory, as deep as many were read; a fault is at the last one, or one further), and the argument reads as it read. No condition. -/
import Derived.Test.YtkpckfmnjebjaaaWu
import Derived.Test.YtkpckfmnjebjaaaWf
namespace Go.Proofs.Ytkpckfmnjebjaaa.walkFour
open Go.ChangeShapes Go.WideShapes Go.ChangeAt Go.RowKit Go.Deep

theorem walk {H : Type} {enc : TypeId × Value → H} {W : World} {v : Value} {n : Nat} {y : DataW H × List MemPlace}
    (h : DataW.trod enc Try.prog W 0 (fun _ => true) true n 27 v.cells.toList = some y) (hz : Lite Try.prog 27 y.1) :
    Calls Try.prog 5 #[v] W fun e w' => e = .returned (.bool true) ∧ Below W.heap.size W w' := by
  obtain ⟨xs, m, _, hy, hlen, hxl, hf⟩ := DataW.trod_struct Try.underlying27 h
  have hl3 : v.cells.toList.length = 3 := hlen.trans c_ask5
  obtain ⟨q, hq, ok⟩ := ask5_lite hl3 h hz
  obtain rfl : v = .agg (ask5V q) := by
    have := agg_cells hq (by simp [ask5V])
    simpa using this
  cases hh : heavy5 q.l q.n
  · exact four_walk walkC q.f q.g q.l q.c q.n q.d q.X q.P q.fr W ok.words ok.nums ok.lc hh
  · exact four_heavy q.f q.g q.l q.c q.n q.d q.fr W ok.l1 ok.n1 hh

set_option maxRecDepth 100000 in
theorem lifted (os : Os) (started : os.Started) (H : Type) (enc : TypeId × Value → H) :
    ReturnsInHanded {} Try.checked os 5 .any (Rows.walkFourSpec.pre6 enc Try.prog Try.f5 Rows.walkFourRow.domain false) (Rows.walkFourSpec.post enc Try.prog Try.f5 false true false false) := by
  refine returnsInHanded_of_change_sized (C := Try.checked) own started (by kernel_rfl) Try.func5
    (ChangeSpec.witness6 (enc := enc) (C := Try.checked) false ⟨#[], #[.agg #[.slice none 0 0, .int .i64 0, .slice none 0 0]], []⟩ 8 (by kernel_rfl) (by kernel_rfl) (by kernel_rfl) (by kernel_rfl)) ?_
  intro W base args ds gs before hval0 hW hcnd hwt _
  have hW' := hW
  obtain ⟨p, q, hA0, hV, rfl, hfz, hnd⟩ := hW
  have hA : DataW.TrodAll enc Try.prog W 0 (fun _ => true) true Try.f5.params.toList args.toList ds p := hA0
  have hw0 : (DataW.weightsEach Try.prog (Try.f5.params.toList ++ Rows.walkFourSpec.plain.varTypes Try.prog) (ds ++ gs)).all (· ≤ reachBytes) = true := hwt
  rw [Try.params5] at hA hw0
  obtain ⟨v0, vs0, d0, ds0, p0, q0, hargs, rfl, rfl, h0, r0⟩ := trodAll_cons hA
  obtain ⟨rfl, rfl, rfl⟩ := trodAll_nil r0
  obtain rfl : args = #[v0] := by cases args; simp_all
  obtain ⟨rfl, rfl⟩ := trodVars_none hV
  have h0k := h0
  obtain ⟨fuel, hf⟩ := h0
  have hz : Lite Try.prog 27 d0 := fun n hn => by
    have := List.all_eq_true.1 hw0 n (DataW.weights_mem_each (j := 0) (t := 27) (d := d0) rfl rfl n hn)
    simpa using this
  clear hA0 hval0 hwt hw0
  simp only [List.append_nil] at hW'
  have hlt : ∀ x ∈ p0, x.block < W.heap.size := fun x hx => hW'.lt x hx
  refine (walk (v := v0) hf hz).mono fun e W' ⟨he, hb⟩ => ?_
  subst he
  have hr := trodAll_cons_mk (Below.trod laidOut (by kernel_rfl) (of_decide_eq_true (by kernel_rfl)) h0k hb hlt) trodAll_mk0
  rw [List.append_nil] at hr
  exact ⟨_, rfl, post_law hW' (fun _ _ _ => trodAll_cons_mk (shut_bool Try.underlying4 _) trodAll_mk0)
    hr rfl hb⟩

theorem proved : Rows.WalkFourSaid :=
  OpenClaim.holds_of_wide 5 Try.f5 rfl rfl rfl rfl rfl rfl rfl ⟨rfl, rfl, rfl, rfl, rfl⟩ rfl rfl rfl rfl rfl (by kernel_rfl) Try.func5 (by kernel_rfl)
    (of_decide_eq_true (by kernel_rfl)) (by unfold Func.isWrapper; first | (rw [if_pos (by decide +kernel)]; kernel_rfl) | (rw [if_neg (by decide +kernel)]; exact ⟨rfl, rfl⟩))
    (fun os started H enc _ => lifted os started H enc)
#print axioms proved
end Go.Proofs.Ytkpckfmnjebjaaa.walkFour
