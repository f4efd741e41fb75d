/- The landed package insn: contracts. -/
import Derived.Test.YthmcamgbnjfklaaGb
import Derived.Test.YthmcamgbnjfklaaRh
set_option linter.all false
namespace Go.Proofs.Ythmcamgbnjfklaa
open Go.ChangeShapes Go.WideShapes Go.ChangeAt Go.RowKit Go.Deep

theorem kcG_below {w w' : World} (hb : Below w.heap.size w w') {b o : Nat} {x : Value} (hc : w.cell? ⟨b, o, none⟩ = some x) : w'.cell? ⟨b, o, none⟩ = some x :=
  (hb.cell (p := ⟨b, o, none⟩) (cell_block hc)).trans hc
theorem kcG_alloc {w : World} {b o : Nat} {x : Value} (h : w.cell? ⟨b, o, none⟩ = some x) (ob : Obj) : (w.alloc ob).cell? ⟨b, o, none⟩ = some x := kcG_below (bel_alloc (Below.refl _ _) ob) h
theorem kcG_drew {w : World} {b o : Nat} {x : Value} (h : w.cell? ⟨b, o, none⟩ = some x) : w.drew.cell? ⟨b, o, none⟩ = some x := h
/-- What the program's calls are held against. -/
def InCheckC : Prop := ∀ (x : Ins) (w : World),
  Calls Try.prog 23 #[insV x] w fun e w' => e = .returned (.int .i64 (if mayI x = true then 0 else 1)) ∧ Below w.heap.size w w'
theorem inCheckC : InCheckC := by
  intro x w
  obtain ⟨op, d, n, m, i⟩ := x
  have HM := Lib.hid (fun W => imayBe_any ⟨op, d, n, m, i⟩ W)
  unfold insV at *
  simp only at *
  generalize mayI ⟨op, d, n, m, i⟩ = mb at *
  cases mb
  · rw [if_neg (by decide)]
    go_enter Try.func23, Try.ntmps23
    go_wp2_with (go_at_call 26; refine (HM.out _).mono ?_; rintro e w1 ⟨rfl, hb1⟩)
    go_ret
    exact ⟨rfl, bel_trans (by repeat' (first | exact Below.refl _ _ | refine bel_alloc ?_ _)) hb1⟩
  · rw [if_pos rfl]
    go_enter Try.func23, Try.ntmps23
    go_wp2_with (go_at_call 26; refine (HM.out _).mono ?_; rintro e w1 ⟨rfl, hb1⟩)
    go_ret
    exact ⟨rfl, bel_trans (by repeat' (first | exact Below.refl _ _ | refine bel_alloc ?_ _)) hb1⟩
end Go.Proofs.Ythmcamgbnjfklaa
