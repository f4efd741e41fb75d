/- Package walk's walks: look, goTo, arrive, end, Walk; Table: contracts. -/
import Derived.Test.YtbhnjaajkolklaaWp
import Derived.Test.YtbhnjaajkolklaaWr
import Derived.Test.YtbhnjaajkolklaaEj
import Derived.Test.YtbhnjaajkolklaaEt
set_option linter.all false
namespace Go.Proofs.Ytbhnjaajkolklaa
open Go.ChangeShapes Go.WideShapes Go.ChangeAt Go.RowKit Go.Deep

theorem cover2 {b : Nat} {t e : TypeId} {cs xs : List Value} {s n c : Nat} {f : Option Addr} : ∀ (i : Nat) (x : Bx), [⟨b, 0, t, cs, .own⟩, ownFx e s f n c xs][i]? = some x → ∀ b', x.fp b' → b' ∈ b :: (f.map (·.block)).toList := fun i x hi b' hb => by
  rcases i with _ | _ | i
  · obtain rfl := Option.some.inj hi
    obtain rfl := Option.some.inj hb
    exact List.mem_cons_self ..
  · obtain rfl := Option.some.inj hi
    exact List.mem_cons_of_mem _ (Option.mem_toList.2 hb)
  · simp at hi
theorem cov2 {ft : List Nat} {w0 W : World} {b : Nat} {t e : TypeId} {cs xs : List Value} {s n c : Nat} {f : Option Addr} (H : Fits ft w0 [⟨b, 0, t, cs, .own⟩, ownFx e s f n c xs] W) : ∀ x ∈ b :: (f.map (·.block)).toList, x ∈ ft ∨ w0.heap.size ≤ x := fun x hx => by
  simp only [List.mem_cons, Option.mem_toList] at hx
  rcases hx with rfl | hx
  · exact (H.all 0 _ rfl).fpl rfl
  · exact (H.all 1 _ rfl).fpl hx
theorem tbl_may {l : Nat} {st lv pg fr : Int} (h : tblMay l st lv pg = true) (h2 : hasB l fr = true) : okM l = true ∧ placeB st lv = true ∧ 0 ≤ pg ∧ pg ≤ 4095 ∧ 0 ≤ fr ∧ fr < (l : Int) / 8 := by
  unfold tblMay at h
  simp only [Bool.and_eq_true] at h
  have hp := numB_iff.1 h.2.2
  unfold hasB framesB at h2
  rw [if_pos h.1] at h2
  simp only [Bool.and_eq_true, decide_eq_true_eq] at h2
  exact ⟨h.1, h.2.1, hp.1, hp.2, h2.1, h2.2⟩
theorem tableA_eq (l : Nat) (X : Nat → BitVec 64) (st lv fr pg : Int) : tableA l X st lv fr pg = if tblMay l st lv pg = true then (if hasB l fr = true then (tblD X st lv fr pg, 0) else (dz, 2)) else (dz, 1) := by
  unfold tableA
  by_cases h : tblMay l st lv pg = true
  · rw [if_pos h]
    have h' := h
    unfold tblMay at h'
    rw [if_pos h']
    simp only [Bool.and_eq_true] at h'
    have e : hasB l fr = numB fr ((l : Int) / 8 - 1) := by
      unfold hasB framesB numB
      rw [if_pos h'.1, Bool.eq_iff_iff]
      simp
      omega
    rw [e]
  · rw [if_neg h]
    unfold tblMay at h
    rw [if_neg h]
theorem tableC : TableC := by
  intro f l c X st lv fr pg w hl hlc hX
  rcases Bool.eq_false_or_eq_true (tblMay l st lv pg) with hG0 | hG0
  · rcases Bool.eq_false_or_eq_true (hasB l fr) with hG1 | hG1
    · exact calls_ex mixedT [] (.r 1 [a1 0 0 0, (5, .call 68 (fun _ => [.agg #[.slice f l c], .int .i64 st, .int .i64 lv, .int .i64 fr, .int .i64 pg]) (fun _ => .agg #[.slice f l c, .int .i64 st, .int .i64 lv, .int .i64 pg, .int .i64 fr])), aN 7 2 0 5] (.r 2 [aN 0 2 0 5, (1, .call 69 (fun _ => [.agg #[.slice f l c, .int .i64 st, .int .i64 lv, .int .i64 pg, .int .i64 fr]]) (fun _ => .bool true))] (.r 4 [aN 0 2 0 5, (1, .call 70 (fun _ => [.agg #[.slice f l c, .int .i64 st, .int .i64 lv, .int .i64 pg, .int .i64 fr]]) (fun _ => .bool true))] (.r 6 [aN 0 2 0 5, (1, .call 71 (fun _ => [.agg #[.slice f l c, .int .i64 st, .int .i64 lv, .int .i64 pg, .int .i64 fr]]) (fun _ => dscV (tblD X st lv fr pg))), aN 2 1 0 9] (.fin [(1, 0, 9)] (fun _ => .tuple #[dscV (tblD X st lv fr pg), .int .i64 0]) []))))) Try.func55 rfl (Fits.nil w) (⟨fun _ W _ => tableOf_any f l c st _ fr pg W, fun _ W _ => (tableMay_any f l c st lv pg fr W).mono fun _ _ hJ => ⟨hJ.1.trans (by rw [hG0]), hJ.2⟩, fun _ W _ => (there_any f l c st lv pg fr W).mono fun _ _ hJ => ⟨hJ.1.trans (by rw [hG1]), hJ.2⟩, fun _ W hk => by have hd := tbl_may hG0 hG1; exact desc_table f l c X st lv pg fr W (hX.keep0 hk) hd.1 hd.2.1 hd.2.2.1 hd.2.2.2.1 hd.2.2.2.2.1 hd.2.2.2.2.2, fun _ _ h _ => ⟨by rw [tableA_eq]; simp only [hG0, hG1]; rfl, h.below⟩⟩) rfl (fun _ => by kernel_rfl)
    · exact calls_ex mixedT [] (.r 1 [a1 0 0 0, (5, .call 68 (fun _ => [.agg #[.slice f l c], .int .i64 st, .int .i64 lv, .int .i64 fr, .int .i64 pg]) (fun _ => .agg #[.slice f l c, .int .i64 st, .int .i64 lv, .int .i64 pg, .int .i64 fr])), aN 7 2 0 5] (.r 2 [aN 0 2 0 5, (1, .call 69 (fun _ => [.agg #[.slice f l c, .int .i64 st, .int .i64 lv, .int .i64 pg, .int .i64 fr]]) (fun _ => .bool true))] (.r 4 [aN 0 2 0 5, (1, .call 70 (fun _ => [.agg #[.slice f l c, .int .i64 st, .int .i64 lv, .int .i64 pg, .int .i64 fr]]) (fun _ => .bool false))] (.r 5 [aN 1 1 0 9] (.fin [(1, 0, 9)] (fun _ => .tuple #[hitV hit0, .int .i64 2]) []))))) Try.func55 rfl (Fits.nil w) (⟨fun _ W _ => tableOf_any f l c st _ fr pg W, fun _ W _ => (tableMay_any f l c st lv pg fr W).mono fun _ _ hJ => ⟨hJ.1.trans (by rw [hG0]), hJ.2⟩, fun _ W _ => (there_any f l c st lv pg fr W).mono fun _ _ hJ => ⟨hJ.1.trans (by rw [hG1]), hJ.2⟩, fun _ _ h _ => ⟨by rw [tableA_eq]; simp only [hG0, hG1]; rfl, h.below⟩⟩) rfl (fun _ => by kernel_rfl)
  · exact calls_ex mixedT [] (.r 1 [a1 0 0 0, (5, .call 68 (fun _ => [.agg #[.slice f l c], .int .i64 st, .int .i64 lv, .int .i64 fr, .int .i64 pg]) (fun _ => .agg #[.slice f l c, .int .i64 st, .int .i64 lv, .int .i64 pg, .int .i64 fr])), aN 7 2 0 5] (.r 2 [aN 0 2 0 5, (1, .call 69 (fun _ => [.agg #[.slice f l c, .int .i64 st, .int .i64 lv, .int .i64 pg, .int .i64 fr]]) (fun _ => .bool false))] (.r 3 [aN 1 1 0 9] (.fin [(1, 0, 9)] (fun _ => .tuple #[hitV hit0, .int .i64 1]) [])))) Try.func55 rfl (Fits.nil w) (⟨fun _ W _ => tableOf_any f l c st _ fr pg W, fun _ W _ => (tableMay_any f l c st lv pg fr W).mono fun _ _ hJ => ⟨hJ.1.trans (by rw [hG0]), hJ.2⟩, fun _ _ h _ => ⟨by rw [tableA_eq]; simp only [hG0]; rfl, h.below⟩⟩) rfl (fun _ => by kernel_rfl)
end Go.Proofs.Ytbhnjaajkolklaa
