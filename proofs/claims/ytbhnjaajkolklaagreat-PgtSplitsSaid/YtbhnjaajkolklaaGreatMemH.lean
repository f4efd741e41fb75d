/- Contracts: Write of package mem; Put, Write of the reference. -/
import Derived.Test.YtbhnjaajkolklaaGreatMemE
set_option linter.all false
namespace Go.Proofs.YtbhnjaajkolklaaGreat
open Go.ChangeShapes Go.WideShapes Go.ChangeAt Go.RowKit Go.Deep

theorem write_ok (f : Option Addr) (l c : Nat) (X : Nat → BitVec 64) (a s : Int) (v : BitVec 64) (w : World) (hX : WordsAt w f l X) (hM : okM l = true) (hE : mayM l a s = 0) :
    Calls Tryz.prog 94 #[.agg #[.slice f l c], .int .i64 a, .int .i64 s, .int .u64 (u v)] w fun e w' => ∃ f' c', e = .returned (.tuple #[.agg #[.slice f' l c'], .int .i64 0]) ∧ OwnW w' w.heap.size (.slice f' l c') l (wrV X a s v) ∧ Below w.heap.size w w' := by
  obtain ⟨l1, l2, l3⟩ := okM_true hM
  obtain ⟨b, o, rfl, hlt, hX'⟩ := hX.pos (by omega)
  clear hX' hlt
  obtain ⟨W, hW⟩ : ∃ W, W = ((w.alloc (.cells #[.slice (some ⟨b, o, none⟩) l c] 24)).alloc (.cells #[.slice none 0 0] 24)).alloc (.cells #[.int .i64 a, .int .i64 s] 165) := ⟨_, rfl⟩
  have hb1 : Below w.heap.size w W := by rw [hW]; exact bel_alloc (bel_alloc (bel_alloc (Below.refl w.heap.size w) _) _) _
  have hs1 : W.heap.size = w.heap.size + 3 := by rw [hW]; simp
  have L0 : Loc W w.heap.size 0 (.slice (some ⟨b, o, none⟩) l c) := by rw [hW]; exact ((Loc.new _ _ _ _ 0 _ rfl rfl).alloc _).alloc _
  have L1 : Loc W (w.heap.size + 1) 0 (.slice none 0 0) := by rw [hW]; exact (Loc.new _ _ _ _ 0 _ (by simp) rfl).alloc _
  have L2 : Loc W (w.heap.size + 1 + 1) 0 (.int .i64 a) := by rw [hW]; exact Loc.new _ _ _ _ 0 _ (by simp) rfl
  have L3 : Loc W (w.heap.size + 1 + 1) 1 (.int .i64 s) := by rw [hW]; exact Loc.new _ _ _ _ 1 _ (by simp) rfl
  have H := allows_any (some ⟨b, o, none⟩) l c a s W
  rw [if_pos hM, hE] at H
  have HH := Lib.hid H
  have HX := Lib.hid (hX.below hb1)
  clear H hX
  go_enter Tryz.func94, Tryz.ntmps94
  go_wp2_with fail
  rw [← hW]
  refine HH.out.mono ?_
  rintro e w1 ⟨rfl, hb⟩
  have c0 := (L0.below hb).cell
  have L1a := L1.below hb
  have L2a := L2.below hb
  have L3a := L3.below hb
  have HX1 := Lib.hid (HX.out.below hb)
  have hB1 := bel_trans hb1 hb
  have hs2 := hb.size
  clear hW hb L0 L1 L2 L3 HH HX hb1
  go_wp2_with fail
  refine (draft_any _ _ _ _ X _ (by omega) HX1.out).mono ?_
  rintro e w2 ⟨f2, c2, rfl, hO, hb2⟩
  obtain ⟨g2, c2', hv, hbg, hg2, hlc, _⟩ := hO.pos (by omega)
  simp at hv
  obtain ⟨rfl, rfl⟩ := hv
  have hs3 := (bel_trans hB1 hb2).size
  obtain ⟨W3, hW3⟩ : ∃ W3, W3 = w2.alloc (.cells #[.slice (some ⟨g2, 0, none⟩) l c2] 143) := ⟨_, rfl⟩
  have hsz3 : w2.heap.size < W3.heap.size := by rw [hW3]; simp
  have hB3 : Below w.heap.size w W3 := by rw [hW3]; exact bel_alloc (bel_trans hB1 hb2) _
  have hO3 : OwnW W3 w1.heap.size (.slice (some ⟨g2, 0, none⟩) l c2) l X := by rw [hW3]; exact hO.below (bel_alloc (Below.refl _ _) _)
  have M1 : Loc W3 (w.heap.size + 1) 0 (.slice none 0 0) := by rw [hW3]; exact (L1a.below hb2).alloc _
  have M2 := (L2a.below hb2).alloc (.cells #[.slice (some ⟨g2, 0, none⟩) l c2] 143)
  have M3 := (L3a.below hb2).alloc (.cells #[.slice (some ⟨g2, 0, none⟩) l c2] 143)
  have M4 : Loc W3 w2.heap.size 0 (.slice (some ⟨g2, 0, none⟩) l c2) := by rw [hW3]; exact Loc.new w2 _ _ _ 0 _ rfl rfl
  have m2 := M2.cell
  have m3 := M3.cell
  have n2 := (L2a.below hb2).cell
  have n3 := (L3a.below hb2).cell
  have HP := put_ok w1.heap.size (some ⟨g2, 0, none⟩) l c2 X a s v W3 hO3 (by have := hb2.size; omega) hM hE
  have HHP := Lib.hid HP
  have HB3 := Lib.hid hB3
  clear hO hb2 hB1 L1a L2a L3a HX1 c0 hO3 hB3 HP M2 M3
  go_wp2_with fail
  rw [← hW3]
  refine HHP.out.mono ?_
  rintro e w4 ⟨rfl, hO4, hB4, hK4⟩
  have hsz4 := hB4.size
  have M5 := M1.same (hK4 g2 rfl (w.heap.size + 1) (by omega) (by omega))
  have M6 := M4.same (hK4 g2 rfl w2.heap.size (by omega) (by omega))
  have hz := (M5.put (.slice (some ⟨g2, 0, none⟩) l c2)).cell
  obtain ⟨p5, r5⟩ := M5
  obtain ⟨p6, r6⟩ := M6
  have R1 := Lib.hid ((hO4.mono (show w.heap.size ≤ _ by omega)).apart (w.heap.size + 1) 0 (.slice (some ⟨g2, 0, none⟩) l c2) (by omega))
  have R2 := Lib.hid ((HB3.out.trans (hB4.mono (by omega))).setCell (p := ⟨w.heap.size + 1, 0, none⟩) (by simp only; omega) (.slice (some ⟨g2, 0, none⟩) l c2))
  clear hO4 hB4 hK4 M1 M4 m2 m3 n2 n3 hW3 HHP
  go_wp2
  refine bodyPost_ret (v := .tuple #[.agg #[.slice (some ⟨g2, 0, none⟩) l c2], .int .i64 0]) (by simp [results, Tryz.results94, go_sem, hz]) rfl ?_
  exact ⟨_, _, rfl, R1.out, R2.out⟩

end Go.Proofs.YtbhnjaajkolklaaGreat
