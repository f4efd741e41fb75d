/- NestConfined: for every argument the law is true (each frame that is read is a table of stage 2, or one that stage 2 lets be read; where a page is, stage 2 lets be accessed so), and the argument reads as it read. No condition. -/
import Derived.Test.YtalbblaicmdhmaaGreatNcd
import Derived.Test.YtalbblaicmdhmaaGreatNv
set_option linter.all false
namespace Go.Proofs.YtalbblaicmdhmaaGreat.nestConfined
open Go.ChangeShapes Go.WideShapes Go.ChangeAt Go.RowKit Go.Deep

theorem walk {H : Type} {enc : TypeId × Value → H} {W : World} {v : Value} {n : Nat} {y : DataW H × List MemPlace}
    (h : DataW.trod enc Tryz.prog W 0 (fun _ => true) true n 31 v.cells.toList = some y) (hz : Lite Tryz.prog 31 y.1) :
    Calls Tryz.prog 3 #[v] W fun e w' => e = .returned (.bool true) ∧ Below W.heap.size W w' := by
  obtain ⟨xs, m, _, hy, hlen, hxl, hf⟩ := DataW.trod_struct Tryz.underlying31 h
  have hl3 : v.cells.toList.length = 10 := hlen.trans c_ask7
  obtain ⟨q, hq, ok⟩ := ask7_lite hl3 h hz
  obtain rfl : v = .agg (ask7V q) := by
    have := agg_cells hq (by simp [ask7V])
    simpa using this
  cases hh : heavy5 q.a.l q.a.n
  · exact nconf_walk transC q.a.f q.a.g q.a.l q.a.c q.a.n q.a.d q.a.X q.a.P q.a.fr q.on1 q.of1 q.og1 q.on2 q.tf q.tg q.ac W ok.words ok.nums ok.lc hh
  · exact nconf_heavy q.a.f q.a.g q.a.l q.a.c q.a.n q.a.d q.a.fr q.on1 q.of1 q.og1 q.on2 q.tf q.tg q.ac W ok.l1 ok.n1 hh

set_option maxRecDepth 100000 in
theorem lifted (os : Os) (started : os.Started) (H : Type) (enc : TypeId × Value → H) :
    ReturnsInHanded {} Tryz.checked os 3 .any (Rows.nestConfinedSpec.pre6 enc Tryz.prog Tryz.f3 Rows.nestConfinedRow.domain false) (Rows.nestConfinedSpec.post enc Tryz.prog Tryz.f3 false true false false) := by
  refine returnsInHanded_of_change_sized (C := Tryz.checked) own started (by kernel_rfl) Tryz.func3
    (ChangeSpec.witness6 (enc := enc) (C := Tryz.checked) false ⟨#[], #[.agg #[.slice none 0 0, .int .i64 0, .slice none 0 0, .bool false, .int .i64 0, .int .i64 0, .bool false, .int .i64 0, .int .i64 0, .int .i64 0]], []⟩ 8 (by kernel_rfl) (by kernel_rfl) (by kernel_rfl) (by kernel_rfl)) ?_
  intro W base args ds gs before hval0 hW hcnd hwt _
  have hW' := hW
  obtain ⟨p, q, hA0, hV, rfl, hfz, hnd⟩ := hW
  have hA : DataW.TrodAll enc Tryz.prog W 0 (fun _ => true) true Tryz.f3.params.toList args.toList ds p := hA0
  have hw0 : (DataW.weightsEach Tryz.prog (Tryz.f3.params.toList ++ Rows.nestConfinedSpec.plain.varTypes Tryz.prog) (ds ++ gs)).all (· ≤ reachBytes) = true := hwt
  rw [Tryz.params3] at hA hw0
  obtain ⟨v0, vs0, d0, ds0, p0, q0, hargs, rfl, rfl, h0, r0⟩ := trodAll_cons hA
  obtain ⟨rfl, rfl, rfl⟩ := trodAll_nil r0
  obtain rfl : args = #[v0] := by cases args; simp_all
  obtain ⟨rfl, rfl⟩ := trodVars_none hV
  have h0k := h0
  obtain ⟨fuel, hf⟩ := h0
  have hz : Lite Tryz.prog 31 d0 := fun n hn => by
    have := List.all_eq_true.1 hw0 n (DataW.weights_mem_each (j := 0) (t := 31) (d := d0) rfl rfl n hn)
    simpa using this
  clear hA0 hval0 hwt hw0
  simp only [List.append_nil] at hW'
  have hlt : ∀ x ∈ p0, x.block < W.heap.size := fun x hx => hW'.lt x hx
  refine (walk (v := v0) hf hz).mono fun e W' ⟨he, hb⟩ => ?_
  subst he
  have hr := trodAll_cons_mk (Below.trod laidOut (by kernel_rfl) (of_decide_eq_true (by kernel_rfl)) h0k hb hlt) trodAll_mk0
  rw [List.append_nil] at hr
  exact ⟨_, rfl, post_law hW' (fun _ _ _ => trodAll_cons_mk (shut_bool Tryz.underlying4 _) trodAll_mk0)
    hr rfl hb⟩

theorem proved : Rows.NestConfinedSaid :=
  OpenClaim.holds_of_wide 3 Tryz.f3 rfl rfl rfl rfl rfl rfl rfl ⟨rfl, rfl, rfl, rfl, rfl⟩ rfl rfl rfl rfl rfl (by kernel_rfl) Tryz.func3 (by kernel_rfl)
    (of_decide_eq_true (by kernel_rfl)) (by unfold Func.isWrapper; first | (rw [if_pos (by decide +kernel)]; kernel_rfl) | (rw [if_neg (by decide +kernel)]; exact ⟨rfl, rfl⟩))
    (fun os started H enc _ => lifted os started H enc)
#print axioms proved
end Go.Proofs.YtalbblaicmdhmaaGreat.nestConfined
