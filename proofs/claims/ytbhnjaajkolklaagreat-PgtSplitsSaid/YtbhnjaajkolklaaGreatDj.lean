/- What a word is: package desc: contract. Package desc's own calls, and the reference's Of: contracts. -/
import Derived.Test.YtbhnjaajkolklaaGreatDg
import Derived.Test.YtbhnjaajkolklaaGreatDi
set_option linter.all false
namespace Go.Proofs.YtbhnjaajkolklaaGreat
section
open Go.ChangeShapes Go.WideShapes Go.ChangeAt Go.RowKit Go.Deep

theorem ofD_yes {st lv : Int} {v : BitVec 64} (h1 : mayE st lv (readD st lv v) = true) (h2 : (u (wordD st lv (readD st lv v)) != u v) = false) : dscV (ofD st lv v) = dscV (readD st lv v) := by
  rw [u_bne] at h2
  unfold ofD
  rw [if_pos ⟨(Bool.and_eq_true _ _ ▸ h1 : _ ∧ _).2, by simpa using h2⟩]
theorem ofD_no {st lv : Int} {v : BitVec 64} (hp : placeB st lv = true) (h1 : mayE st lv (readD st lv v) = false) : dscV (ofD st lv v) = dscV dz := by
  unfold ofD
  unfold mayE at h1
  rw [hp, Bool.true_and] at h1
  rw [if_neg (by rw [h1]; simp)]
theorem ofD_other {st lv : Int} {v : BitVec 64} (h2 : (u (wordD st lv (readD st lv v)) != u v) = true) : dscV (ofD st lv v) = dscV dz := by
  rw [u_bne] at h2
  unfold ofD
  rw [if_neg (fun h => by simp [h.2] at h2)]
theorem of_any (st lv : Int) (v : BitVec 64) (w : World) (hp : placeB st lv = true) :
    Calls Tryz.prog 120 #[.int .i64 st, .int .i64 lv, .int .u64 (u v)] w fun e w' => e = .returned (.tuple #[dscV (ofD st lv v), .int .i64 0]) ∧ Below w.heap.size w w' := by
  rcases Bool.eq_false_or_eq_true (!(mayE st lv (readD st lv v))) with hG0 | hG0
  · exact calls_ex mixedT [] (.r 1 [aN 4 1 0 2] (.r 2 [aN 0 1 0 2, (1, .call 103 (fun _ => [.agg #[.int .i64 st, .int .i64 lv]]) (fun _ => .bool true))] (.r 4 [aN 0 1 0 2, (2, .call 132 (fun _ => [.agg #[.int .i64 st, .int .i64 lv], .int .u64 (u v)]) (fun _ => .agg #[.int .i64 st, .int .i64 lv, .int .i64 (readD st lv v).k, .int .i64 (readD st lv v).f, .bool (readD st lv v).r, .bool (readD st lv v).w, .bool (readD st lv v).x, .bool (readD st lv v).a, .bool (readD st lv v).n, .int .i64 (readD st lv v).s, .int .i64 (readD st lv v).o])), aN 4 2 0 11] (.r 5 [aN 0 2 0 11, (1, .call 86 (fun _ => [.agg #[.int .i64 st, .int .i64 lv, .int .i64 (readD st lv v).k, .int .i64 (readD st lv v).f, .bool (readD st lv v).r, .bool (readD st lv v).w, .bool (readD st lv v).x, .bool (readD st lv v).a, .bool (readD st lv v).n, .int .i64 (readD st lv v).s, .int .i64 (readD st lv v).o]]) (fun _ => .bool (mayE st lv (readD st lv v)))), (2, .rw (fun _ => .bool (!(mayE st lv (readD st lv v)))) (fun _ => .bool true))] (.r 6 [aN 1 0 0 9] (.fin [(0, 0, 9)] (fun _ => .tuple #[.agg #[.int .i64 0, .int .i64 0, .bool false, .bool false, .bool false, .bool false, .bool false, .int .i64 0, .int .i64 0], .int .i64 0]) [])))))) Tryz.func120 rfl (Fits.nil w) (⟨fun _ W _ => by have := spot_mayBe st lv W; rw [hp] at this; exact this.mono fun _ _ h => ⟨h.1, h.2 ▸ bel_alloc (Below.refl _ _) _⟩, fun _ W _ => read_any st lv v W, fun _ W _ => emayBe_any st lv _ _ _ _ _ _ _ _ _ W, fun _ => congrArg Value.bool hG0, fun _ _ h _ => ⟨by rw [ofD_no hp (by simpa using hG0)]; rfl, h.below⟩⟩) rfl (fun _ => by kernel_rfl)
  · exact calls_ex mixedT [] (.r 1 [aN 4 1 0 2] (.r 2 [aN 0 1 0 2, (1, .call 103 (fun _ => [.agg #[.int .i64 st, .int .i64 lv]]) (fun _ => .bool true))] (.r 4 [aN 0 1 0 2, (2, .call 132 (fun _ => [.agg #[.int .i64 st, .int .i64 lv], .int .u64 (u v)]) (fun _ => .agg #[.int .i64 st, .int .i64 lv, .int .i64 (readD st lv v).k, .int .i64 (readD st lv v).f, .bool (readD st lv v).r, .bool (readD st lv v).w, .bool (readD st lv v).x, .bool (readD st lv v).a, .bool (readD st lv v).n, .int .i64 (readD st lv v).s, .int .i64 (readD st lv v).o])), aN 4 2 0 11] (.r 5 [aN 0 2 0 11, (1, .call 86 (fun _ => [.agg #[.int .i64 st, .int .i64 lv, .int .i64 (readD st lv v).k, .int .i64 (readD st lv v).f, .bool (readD st lv v).r, .bool (readD st lv v).w, .bool (readD st lv v).x, .bool (readD st lv v).a, .bool (readD st lv v).n, .int .i64 (readD st lv v).s, .int .i64 (readD st lv v).o]]) (fun _ => .bool (mayE st lv (readD st lv v)))), (2, .rw (fun _ => .bool (!(mayE st lv (readD st lv v)))) (fun _ => .bool false)), aN 4 2 0 11, (5, .call 113 (fun _ => [.agg #[.int .i64 st, .int .i64 lv, .int .i64 (readD st lv v).k, .int .i64 (readD st lv v).f, .bool (readD st lv v).r, .bool (readD st lv v).w, .bool (readD st lv v).x, .bool (readD st lv v).a, .bool (readD st lv v).n, .int .i64 (readD st lv v).s, .int .i64 (readD st lv v).o]]) (fun _ => .int .u64 (u (wordD st lv (readD st lv v)))))] (.split ((u (wordD st lv (readD st lv v))) != (u v)) (.r 6 [aN 1 0 0 9] (.fin [(0, 0, 9)] (fun _ => .tuple #[.agg #[.int .i64 0, .int .i64 0, .bool false, .bool false, .bool false, .bool false, .bool false, .int .i64 0, .int .i64 0], .int .i64 0]) [])) (.r 7 [aN 1 2 2 9, aN 2 0 0 9] (.fin [(0, 0, 9)] (fun _ => .tuple #[.agg #[.int .i64 (readD st lv v).k, .int .i64 (readD st lv v).f, .bool (readD st lv v).r, .bool (readD st lv v).w, .bool (readD st lv v).x, .bool (readD st lv v).a, .bool (readD st lv v).n, .int .i64 (readD st lv v).s, .int .i64 (readD st lv v).o], .int .i64 0]) []))))))) Tryz.func120 rfl (Fits.nil w) (⟨fun _ W _ => by have := spot_mayBe st lv W; rw [hp] at this; exact this.mono fun _ _ h => ⟨h.1, h.2 ▸ bel_alloc (Below.refl _ _) _⟩, fun _ W _ => read_any st lv v W, fun _ W _ => emayBe_any st lv _ _ _ _ _ _ _ _ _ W, fun _ => congrArg Value.bool hG0, fun _ W _ => eword_any st lv _ _ _ _ _ _ _ _ _ W, fun hS1 => fun _ _ h _ => ⟨by rw [ofD_other hS1]; rfl, h.below⟩, fun hS1 => fun _ _ h _ => ⟨by rw [ofD_yes (by simpa using hG0) hS1]; rfl, h.below⟩⟩) rfl (fun _ => by kernel_rfl)
end
section
open Go.ChangeShapes Go.WideShapes Go.ChangeAt Go.RowKit Go.Deep

theorem check_any (st lv : Int) (k f : Int) (r wr x a n : Bool) (s o : Int) (w : World) (b : Bool) (hb : mayE st lv (Dsc.mk k f r wr x a n s o) = b) :
    Calls Tryz.prog 67 #[.int .i64 st, .int .i64 lv, .agg #[.int .i64 k, .int .i64 f, .bool r, .bool wr, .bool x, .bool a, .bool n, .int .i64 s, .int .i64 o]] w fun e w' => e = .returned (.int .i64 (if b then 0 else 1)) ∧ Below w.heap.size w w' := by
  have HM := Lib.hid (fun W => emayBe_any st lv k f r wr x a n s o W)
  rw [hb] at HM
  clear hb
  cases b
  all_goals
    go_enter Tryz.func67, Tryz.ntmps67
    go_wp2_with (first | (go_at_call 85; refine (entryOf_any _ _ _ _ _ _ _ _ _ _ _ _).mono ?_; rintro e w' ⟨rfl, rfl⟩) | (go_at_call 86; refine (HM.out _).mono ?_; rintro e w' ⟨rfl, hb1⟩))
    go_ret
    exact ⟨rfl, bel_trans (by repeat' (first | exact Below.refl _ _ | refine bel_alloc ?_ _)) hb1⟩

theorem dword_yes (st lv : Int) (k f : Int) (r wr x a n : Bool) (s o : Int) (w : World) (hb : mayE st lv (Dsc.mk k f r wr x a n s o) = true) :
    Calls Tryz.prog 93 #[.int .i64 st, .int .i64 lv, .agg #[.int .i64 k, .int .i64 f, .bool r, .bool wr, .bool x, .bool a, .bool n, .int .i64 s, .int .i64 o]] w fun e w' => e = .returned (.tuple #[.int .u64 (u (wordD st lv (Dsc.mk k f r wr x a n s o))), .int .i64 0]) ∧ Below w.heap.size w w' := by
  have HM := Lib.hid (fun W => emayBe_any st lv k f r wr x a n s o W)
  rw [hb] at HM
  clear hb
  have HW := Lib.hid (fun W => eword_any st lv k f r wr x a n s o W)
  generalize wordD st lv (Dsc.mk k f r wr x a n s o) = wd at *
  go_enter Tryz.func93, Tryz.ntmps93
  go_wp2_with fail
  refine (entryOf_any _ _ _ _ _ _ _ _ _ _ _ _).mono ?_
  rintro e w1 ⟨rfl, rfl⟩
  go_wp2_with fail
  refine (HM.out _).mono ?_
  rintro e w2 ⟨rfl, hb2⟩
  have X2 := (BoxAt.new _ _ _).below hb2
  rw [show (((w.alloc (.cells #[.int .i64 k, .int .i64 f, .bool r, .bool wr, .bool x, .bool a, .bool n, .int .i64 s, .int .i64 o] 37)).alloc (.cells #[.int .i64 k, .int .i64 f, .bool r, .bool wr, .bool x, .bool a, .bool n, .int .i64 s, .int .i64 o] 37)).alloc (.cells #[.int .i64 st, .int .i64 lv, .int .i64 k, .int .i64 f, .bool r, .bool wr, .bool x, .bool a, .bool n, .int .i64 s, .int .i64 o] 136)).heap.size = w.heap.size + 1 + 1 + 1 from by simp] at X2
  have v0 := X2.cell 0
  have v1 := X2.cell 1
  have v2 := X2.cell 2
  have v3 := X2.cell 3
  have v4 := X2.cell 4
  have v5 := X2.cell 5
  have v6 := X2.cell 6
  have v7 := X2.cell 7
  have v8 := X2.cell 8
  have v9 := X2.cell 9
  have v10 := X2.cell 10
  simp only [List.getElem?_toArray, List.getElem?_cons_zero, List.getElem?_cons_succ] at v0 v1 v2 v3 v4 v5 v6 v7 v8 v9 v10
  clear X2
  go_wp2_with (first | (go_at_call 113; refine (HW.out _).mono ?_; rintro e w' ⟨rfl, hb3⟩))
  go_ret2
  exact ⟨rfl, bel_trans (bel_trans (by repeat' (first | exact Below.refl _ _ | refine bel_alloc ?_ _)) hb2) hb3⟩
end
end Go.Proofs.YtbhnjaajkolklaaGreat
