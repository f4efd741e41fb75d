/- The landed package insn: which instruction may be. -/
import Derived.Test.YthmcamgbnjfklaaGa
import Derived.Test.YthmcamgbnjfklaaIn
set_option linter.all false
namespace Go.Proofs.Ythmcamgbnjfklaa
open Go.ChangeShapes Go.WideShapes Go.ChangeAt Go.RowKit Go.Deep

theorem int_beq (a b : Int) : (a == b) = decide (a = b) := by
  rw [Bool.eq_iff_iff]; simp
def allB (a b : Int) (L : List Int) : Bool := L.all (inB a b)
theorem allB_one (a b n : Int) : allB a b [n] = inB a b n := by simp [allB]
theorem allB_three (a b x y z : Int) : allB a b [x, y, z] = (inB a b x && (inB a b y && inB a b z)) := by simp [allB]
theorem allB_no {a b : Int} {L : List Int} (k : Nat) (hk : k < L.length) (h : ¬ (a ≤ L.getD k 0 ∧ L.getD k 0 ≤ b)) : allB a b L = false := by
  unfold allB
  rw [List.all_eq_false]
  refine ⟨L.getD k 0, ?_, ?_⟩
  · rw [List.getD_eq_getElem?_getD, List.getElem?_eq_getElem hk]
    exact List.getElem_mem hk
  · rw [inB_iff]; exact h
theorem allB_yes {a b : Int} {L : List Int} (h : ∀ j, j < L.length → a ≤ L.getD j 0 ∧ L.getD j 0 ≤ b) : allB a b L = true := by
  unfold allB
  rw [List.all_eq_true]
  intro x hx
  obtain ⟨k, hk, rfl⟩ := List.mem_iff_getElem.1 hx
  have := h k hk
  rw [List.getD_eq_getElem?_getD, List.getElem?_eq_getElem hk] at this
  rw [inB_iff]; exact this
set_option maxRecDepth 100000 in
theorem areIn_any (a b : Int) (f : Option Addr) (n c : Nat) (L : List Int) (w : World) (hl : L.length ≤ 1000000) (hn : n = L.length) (h : IntsAt w f L) :
    Calls Try.prog 27 #[.int .i64 a, .int .i64 b, .slice f n c] w fun e w' => e = .returned (.bool (allB a b L)) ∧ w = w' := by
  subst hn
  have H1 := Lib.hid h
  clear h
  obtain ⟨l, hL⟩ : ∃ l, l = L.length := ⟨_, rfl⟩
  have HL := Lib.hid hL
  rw [← hL] at hl ⊢
  clear hL
  go_enter Try.func27, Try.ntmps27
  go_wp2
  go_loopw [11] (fun i wr => ∃ (k : Nat), k ≤ l ∧ i = .int .i64 k ∧ wr = w ∧ Hid (∀ j, j < k → a ≤ L.getD j 0 ∧ L.getD j 0 ≤ b)) (fun i _ => l - (intOf i).toNat)
  case atStart => exact ⟨0, Nat.zero_le _, rfl, rfl, fun j hj => absurd hj (by omega)⟩
  case round =>
    obtain ⟨k, hk, rfl, rfl, HJ⟩ := hrel
    by_cases hlt : k < l
    · obtain ⟨b', o, rfl, hc⟩ := H1.out.get k (by rw [← HL.out]; exact hlt)
      have i1 : (0 : Int) ≤ (k : Int) := by omega
      have i2 : (k : Int) < (l : Int) := by omega
      obtain ⟨z, hz⟩ : ∃ z, L.getD k 0 = z := ⟨_, rfl⟩
      rw [hz] at hc
      have HZ := Lib.hid hz
      clear hz
      by_cases h1 : z < a
      · go_wp2
        go_ret
        refine ⟨ret_bool ?_, rfl⟩
        exact (allB_no k (by rw [← HL.out]; exact hlt) (by rw [HZ.out]; omega)).symm
      · by_cases h2 : z ≤ b
        · go_wp2
          go_roundw
          case rel =>
            refine ⟨k + 1, by omega, by go_num, by first | trivial | rfl, fun j hj => ?_⟩
            by_cases hjk : j = k
            · rw [hjk, HZ.out]; omega
            · exact HJ.out j (by omega)
          case measure => simp [intOf]; omega
        · go_wp2
          go_ret
          refine ⟨ret_bool ?_, rfl⟩
          exact (allB_no k (by rw [← HL.out]; exact hlt) (by rw [HZ.out]; omega)).symm
    · go_wp2
      go_ret
      refine ⟨ret_bool ?_, rfl⟩
      exact (allB_yes (fun j hj => HJ.out j (by rw [← HL.out] at hj; omega))).symm
theorem areIn_new (a b : Int) (L : List Int) (n : Nat) (cs : Array Value) (hn : L.length = n) (hl : n ≤ 1000) (hc : cs.toList = icells L) (r : Bool) (hr : allB a b L = r) (w : World) (g : Nat) (hg : w.heap.size = g) :
    Calls Try.prog 27 #[.int .i64 a, .int .i64 b, .slice (some ⟨g, 0, none⟩) n n] (w.alloc (.cells cs 3)) fun e w' => e = .returned (.bool r) ∧ w.alloc (.cells cs 3) = w' := by
  subst hr hn hg
  exact areIn_any a b _ L.length L.length L _ (by omega) rfl (OwnI.made w w.heap.size L cs L.length (Nat.le_refl _) rfl (by omega) hc).ints.2
set_option maxRecDepth 100000 in
theorem suits_any (x : Ins) (w : World) :
    Calls Try.prog 28 #[insV x] w fun e w' => e = .returned (.bool (suitB x)) ∧ Below w.heap.size w w' := by
  obtain ⟨op, d, n, m, i⟩ := x
  unfold insV suitB
  simp only
  have HM := Lib.hid (areIn_new 0 3 [m] 1 #[.int .i64 m] rfl (by decide) rfl _ (allB_one 0 3 m))
  have HI := Lib.hid (areIn_new 0 5 [i] 1 #[.int .i64 i] rfl (by decide) rfl _ (allB_one 0 5 i))
  have HV := Lib.hid (areIn_new 3 5 [i] 1 #[.int .i64 i] rfl (by decide) rfl _ (allB_one 3 5 i))
  by_cases h7 : op = 7
  · subst h7
    go_enter Try.func28, Try.ntmps28
    go_wp2_with (go_at_call 27; refine (HM.out _ _ (by simp only [World.size_alloc])).mono ?_; rintro e w1 ⟨rfl, rfl⟩)
    go_ret
    exact ⟨ret_bool (by simp), by go_grown⟩
  · by_cases h8 : op = 8
    · subst h8
      go_enter Try.func28, Try.ntmps28
      go_wp2_with (go_at_call 27; refine (HM.out _ _ (by simp only [World.size_alloc])).mono ?_; rintro e w1 ⟨rfl, rfl⟩)
      go_ret
      exact ⟨ret_bool (by simp), by go_grown⟩
    · by_cases h11 : op = 11
      · subst h11
        go_enter Try.func28, Try.ntmps28
        go_wp2_with (go_at_call 27; refine (HI.out _ _ (by simp only [World.size_alloc])).mono ?_; rintro e w1 ⟨rfl, rfl⟩)
        go_ret
        exact ⟨ret_bool (by simp), by go_grown⟩
      · by_cases h12 : op = 12
        · subst h12
          go_enter Try.func28, Try.ntmps28
          go_wp2_with (go_at_call 27; refine (HI.out _ _ (by simp only [World.size_alloc])).mono ?_; rintro e w1 ⟨rfl, rfl⟩)
          go_ret
          exact ⟨ret_bool (by simp), by go_grown⟩
        · by_cases h13 : op = 13
          · subst h13
            go_enter Try.func28, Try.ntmps28
            go_wp2_with (go_at_call 27; refine (HV.out _ _ (by simp only [World.size_alloc])).mono ?_; rintro e w1 ⟨rfl, rfl⟩)
            go_ret
            exact ⟨ret_bool (by simp), by go_grown⟩
          · have e7 : (op == 7) = false := by rw [int_beq]; simp [h7]
            have e8 : (op == 8) = false := by rw [int_beq]; simp [h8]
            have e11 : (op == 11) = false := by rw [int_beq]; simp [h11]
            have e12 : (op == 12) = false := by rw [int_beq]; simp [h12]
            have e13 : (op == 13) = false := by rw [int_beq]; simp [h13]
            go_enter Try.func28, Try.ntmps28
            go_wp2
            go_ret
            exact ⟨ret_bool (by simp [h7, h8, h11, h12, h13]), by go_grown⟩
set_option maxRecDepth 100000 in
theorem imayBe_any (x : Ins) (w : World) :
    Calls Try.prog 26 #[insV x] w fun e w' => e = .returned (.bool (mayI x)) ∧ Below w.heap.size w w' := by
  have H4 := Lib.hid (fun W => suits_any x W)
  have hm : mayI x = (inB 1 16 x.op && (inB 0 7 x.d && (inB 0 7 x.n && inB 0 7 x.m) && (inB (-2048) 2047 x.i && suitB x))) := by
    unfold mayI
    simp only [Bool.and_assoc]
  rw [hm]
  clear hm
  generalize suitB x = a4 at *
  obtain ⟨op, d, n, m, i⟩ := x
  unfold insV at *
  simp only at *
  have H1 := Lib.hid (areIn_new 1 16 [op] 1 #[.int .i64 op] rfl (by decide) rfl _ (allB_one 1 16 op))
  have H2 := Lib.hid (areIn_new 0 7 [d, n, m] 3 #[.int .i64 d, .int .i64 n, .int .i64 m] rfl (by decide) rfl _ (allB_three 0 7 d n m))
  have H3 := Lib.hid (areIn_new (-2048) 2047 [i] 1 #[.int .i64 i] rfl (by decide) rfl _ (allB_one (-2048) 2047 i))
  generalize inB 1 16 op = a1 at *
  generalize (inB 0 7 d && (inB 0 7 n && inB 0 7 m)) = a2 at *
  generalize inB (-2048) 2047 i = a3 at *
  cases a1
  · go_enter Try.func26, Try.ntmps26
    go_wp2_with fail
    refine (H1.out _ _ (by simp only [World.size_alloc])).mono ?_
    rintro e w1 ⟨rfl, rfl⟩
    go_wp2
    go_ret
    exact ⟨rfl, by first | (go_grown; done) | exact bel_trans (by go_grown) hb⟩
  · skip
    cases a2
    · go_enter Try.func26, Try.ntmps26
      go_wp2_with fail
      refine (H1.out _ _ (by simp only [World.size_alloc])).mono ?_
      rintro e w1 ⟨rfl, rfl⟩
      go_wp2_with fail
      refine (H2.out _ _ (by simp only [World.size_alloc])).mono ?_
      rintro e w2 ⟨rfl, rfl⟩
      go_wp2
      go_ret
      exact ⟨rfl, by first | (go_grown; done) | exact bel_trans (by go_grown) hb⟩
    · skip
      cases a3
      · go_enter Try.func26, Try.ntmps26
        go_wp2_with fail
        refine (H1.out _ _ (by simp only [World.size_alloc])).mono ?_
        rintro e w1 ⟨rfl, rfl⟩
        go_wp2_with fail
        refine (H2.out _ _ (by simp only [World.size_alloc])).mono ?_
        rintro e w2 ⟨rfl, rfl⟩
        go_wp2_with fail
        refine (H3.out _ _ (by simp only [World.size_alloc])).mono ?_
        rintro e w3 ⟨rfl, rfl⟩
        go_wp2
        go_ret
        exact ⟨rfl, by first | (go_grown; done) | exact bel_trans (by go_grown) hb⟩
      · go_enter Try.func26, Try.ntmps26
        go_wp2_with fail
        refine (H1.out _ _ (by simp only [World.size_alloc])).mono ?_
        rintro e w1 ⟨rfl, rfl⟩
        go_wp2_with fail
        refine (H2.out _ _ (by simp only [World.size_alloc])).mono ?_
        rintro e w2 ⟨rfl, rfl⟩
        go_wp2_with fail
        refine (H3.out _ _ (by simp only [World.size_alloc])).mono ?_
        rintro e w3 ⟨rfl, rfl⟩
        go_wp2_with fail
        refine (H4.out _).mono ?_
        rintro e w4 ⟨rfl, hb⟩
        go_wp2
        go_ret
        exact ⟨rfl, by first | (go_grown; done) | exact bel_trans (by go_grown) hb⟩
end Go.Proofs.Ythmcamgbnjfklaa
