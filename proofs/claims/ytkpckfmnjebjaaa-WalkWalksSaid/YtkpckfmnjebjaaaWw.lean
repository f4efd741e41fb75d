/- The walk of WalkWalks. -/
import Derived.Test.YtkpckfmnjebjaaaWa
import Derived.Test.YtkpckfmnjebjaaaSt
import Derived.Deep.CutBlock
import Derived.Deep.DeepCutAuto
namespace Go.Proofs.Ytkpckfmnjebjaaa
open Go.ChangeShapes Go.WideShapes Go.ChangeAt Go.RowKit Go.Deep

theorem qcell {W w' : World} {b : Nat} (hb : Below W.heap.size W w') (i : Nat) : b < W.heap.size → w'.cell? ⟨b, i, none⟩ = W.cell? ⟨b, i, none⟩ := fun h => hb.cell (p := ⟨b, i, none⟩) h
theorem qfree {W w' : World} {b : Nat} (hb : Below W.heap.size W w') (i : Nat) : b < W.heap.size → w'.frozen? ⟨b, i, none⟩ = W.frozen? ⟨b, i, none⟩ := fun h => hb.frozen (p := ⟨b, i, none⟩) h
theorem BoxAt.setB {w : World} {b i : Nat} {cs cs' : Array Value} {t : TypeId} {v : Value} (h : BoxAt w b cs t) (hc : cs.setIfInBounds i v = cs') : BoxAt (w.setCell ⟨b, i, none⟩ v) b cs' t := h.set i v cs' hc
theorem walkA_no {l : Nat} {X : Nat → BitVec 64} {st fr pg : Int} (h : walkMay l st fr pg = false) : walkA l X st fr pg = ((hit0, flt0, []), 1) := by unfold walkA; rw [h]; rfl
theorem walkA_yes {l : Nat} {X : Nat → BitVec 64} {st fr pg : Int} (h : walkMay l st fr pg = true) : walkA l X st fr pg = (walkD l X st fr pg, 0) := by unfold walkA; rw [h]; rfl
theorem walkD_len (l : Nat) (X : Nat → BitVec 64) (st fr pg : Int) (h0 : 0 ≤ fr) (hp : 0 ≤ pg) : (walkD l X st fr pg).2.2.length ≤ 4 :=
  (walkS_read _ _ st pg (fun lv f => tbl_kind X st lv f pg) (fun lv f => (tbl_frame X st lv f pg).1) hp 4 0 fr [] (by decide) (by decide) h0 rfl (by simp)).1

set_option maxRecDepth 100000 in
theorem walks_heavy (f g : Option Addr) (l c n d : Nat) (fr : Int) (w : World) (hl : l ≤ 1000000000000000) (hn : n ≤ 1000000000000000) (hh : heavy5 l n = true) :
    Calls Try.prog 4 #[.agg #[.slice f l c, .int .i64 fr, .slice g n d]] w fun e w' => e = .returned (.bool true) ∧ Below w.heap.size w w' := by
  have HH := Lib.hid (fun W => heavy5_any f g l c n d fr W hl hn)
  rw [hh] at HH
  clear hh
  go_enter Try.func4, Try.ntmps4
  go_wp2_with (go_at_call 6; refine (HH.out _).mono ?_; rintro e w1 ⟨rfl, hb1⟩)
  go_ret
  exact ⟨rfl, bel_trans (bel_alloc (Below.refl _ _) _) hb1⟩

set_option maxRecDepth 100000 in
set_option maxHeartbeats 12800000 in
theorem walks_walk (PW : WalkC) (f g : Option Addr) (l c n d : Nat) (X : Nat → BitVec 64) (P : Nat → Int) (fr : Int) (w : World) (hX : WordsAt w f l X) (hP : NumsAt w g n P) (hlc : l ≤ c) (hh : heavy5 l n = false) :
    Calls Try.prog 4 #[.agg #[.slice f l c, .int .i64 fr, .slice g n d]] w fun e w' => e = .returned (.bool true) ∧ Below w.heap.size w w' := by
  obtain ⟨hl, hn⟩ := heavy5_no hh
  have HH := Lib.hid (fun W => heavy5_any f g l c n d fr W (by omega) (by omega))
  rw [hh] at HH
  clear hh
  have HX := Lib.hid hX
  have HP := Lib.hid hP
  have HPW := Lib.hid (fun st pg W h => PW f l c X st fr pg W (by omega) hlc h)
  have HW5 := Lib.hid (fun W => wakes5_any PW W)
  have HM := Lib.hid (fun W => rmemB f l c W)
  have HWR := Lib.hid (fun st pg W (hX : WordsAt W f l X) hM hst p0 p1 f0 f1 => walkR_any f l c X st fr pg W hX hM hst p0 p1 f0 f1)
  have X0 := Lib.hid (BoxAt.new w #[.slice f l c, .int .i64 fr, .slice g n d] 27)
  have B0 := Lib.hid (bel_alloc (Below.refl w.heap.size w) (.cells #[.slice f l c, .int .i64 fr, .slice g n d] 27))
  clear hX hP PW
  go_enter Try.func4, Try.ntmps4
  go_wp2_with fail
  refine (HH.out _).mono ?_
  rintro e w1 ⟨rfl, hb1⟩
  have X1 := X0.out.below hb1
  have B1 := bel_trans B0.out hb1
  have HX1 := Lib.hid (HX.out.below B1)
  have HP1 := Lib.hid (HP.out.below B1)
  have X1 := Lib.hid X1
  have B1 := Lib.hid B1
  clear X0 B0 hb1 HX HP HH
  go_wp2_with fail
  go_loopw [3] (fun i wr => ∃ k : Nat, k ≤ n ∧ i = .int .i64 k ∧ Below w1.heap.size w1 wr) (fun i _ => n - (intOf i).toNat)
  case atStart => exact ⟨0, Nat.zero_le _, rfl, Below.refl _ _⟩
  case round =>
    obtain ⟨k, hk, rfl, hb⟩ := hrel
    have pc2 := (X1.out.below hb).get 2 (.slice g n d) rfl
    by_cases hlt : k < n ∧ k < 12
    · obtain ⟨hlt, hlt'⟩ := hlt
      have i1 : (0 : Int) ≤ (k : Int) := by omega
      have i2 : (k : Int) < (n : Int) := by omega
      have d12 : decide ((k : Int) < 12) = true := decide_eq_true (by omega)
      obtain ⟨gb, go, rfl, hpk0⟩ := HP1.out k hlt
      have hpk : w1.cell? ⟨gb, go + k, none⟩ = some (.int .i64 (P k)) := hpk0
      generalize P k = pg at *
      have HPK := Lib.hid hpk
      have HB0 := Lib.hid hb
      clear hb hpk0 hpk
      go_wp2_with fail
      clear pc2
      obtain ⟨wa, rfl⟩ : ∃ wa : World, wa = wr := ⟨_, rfl⟩
      go_loopw [4] (fun t wi => ∃ st : Int, 0 ≤ st ∧ st ≤ 3 ∧ t = .int .i64 st ∧ Below w1.heap.size w1 wi) (fun t _ => (3 - intOf t).toNat)
      case atStart => exact ⟨0, by decide, by decide, rfl, HB0.out⟩
      case round =>
        obtain ⟨st, hs0, hs4, rfl, hb⟩ := hrel
        by_cases hst : st ≤ 2
        · have e3 : decide (st ≤ 2) = true := decide_eq_true hst
          have HPF := Lib.hid (fun W => page_any fr W)
          have HPG := Lib.hid (fun W => page_any pg W)
          have HT := Lib.hid (fun W h => HPW.out st pg W h)
          have HB := Lib.hid hb
          have hws : w1.heap.size ≤ wr.heap.size := hb.size
          have X2 := Lib.hid (X1.out.below hb)
          have hpk2 := Lib.hid (keepc hb HPK.out)
          have HXc := Lib.hid (HX1.out.below hb)
          clear hb
          have hcase : okM l = false ∨ (okM l = true ∧ st = 0) ∨ (okM l = true ∧ 0 < st ∧ numB fr 4095 = false) ∨ (okM l = true ∧ 0 < st ∧ numB fr 4095 = true ∧ numB pg 4095 = false) ∨ (okM l = true ∧ 0 < st ∧ numB fr 4095 = true ∧ numB pg 4095 = true) := by
            have hz : st = 0 ∨ 0 < st := by omega
            cases okM l <;> cases numB fr 4095 <;> cases numB pg 4095 <;> simp <;> omega
          cases hA : walkMay l st fr pg
          · have HNA := Lib.hid hA
            have HC := Lib.hid hcase
            clear hcase
            simp only [walkA_no hA] at HT
            clear hA
            unfold Walk4End hitV fltV at HT
            simp only [hit0, flt0, atr0, List.length_nil] at HT
            have Pc0 := X2.out.get 0 (.slice f l c) rfl
            have Pc1 := X2.out.get 1 (.int .i64 fr) rfl
            have Pc2 := X2.out.get 2 (.slice (some ⟨gb, go, none⟩) n d) rfl
            have hpk3 := hpk2.out
            have hlP : w.heap.size < wr.heap.size := X2.out.lt
            have hlG : gb < wr.heap.size := cell_block hpk2.out
            have hneP : w.heap.size ≠ wr.heap.size := Nat.ne_of_lt X2.out.lt
            have hneG : gb ≠ wr.heap.size := Nat.ne_of_lt (cell_block hpk2.out)
            have hneP1 : w.heap.size ≠ wr.heap.size + 1 := by have := X2.out.lt; omega
            have hneG1 : gb ≠ wr.heap.size + 1 := by have : gb < wr.heap.size := cell_block hpk2.out; omega
            go_upto_region 9 with fail
            go_cut [5, 6, 7, 8] (fun s5 s6 s7 s8 wx => ∃ (bH : Nat) (bF : Nat) (f' : Option Addr) (c' : Nat), s5 = .pointer (some ⟨bH, 0, none⟩) ∧ s6 = .pointer (some ⟨bF, 0, none⟩) ∧ s7 = .slice f' (0) c' ∧ s8 = .int .i64 1 ∧ wr.heap.size ≤ bH ∧ wr.heap.size ≤ bF ∧ bH ≠ bF ∧ Hid (Below wr.heap.size wr wx) ∧ Hid (BoxAt wx bH #[.int .i64 0, .int .i64 0, .bool false, .bool false, .bool false, .bool false, .bool false, .int .i64 0, .int .i64 0] 45) ∧ Hid (BoxAt wx bF #[.int .i64 0, .int .i64 0, .int .i64 0, .bool false, .int .i64 0] 47) ∧ Hid (OwnI wx wr.heap.size (.slice f' (0) c') ([])))
            case first =>
              rename_i JJ KK hJJ hKK
              refine wp_region_held_drew (S := (fun w' => w'.cell? ⟨w.heap.size, 0, none⟩ = some (.slice f l c) ∧ w'.cell? ⟨w.heap.size, 1, none⟩ = some (.int .i64 fr) ∧ w'.cell? ⟨w.heap.size, 2, none⟩ = some (.slice (some ⟨gb, go, none⟩) n d) ∧ w'.cell? ⟨gb, go + k, none⟩ = some (.int .i64 pg))) (by kernel_rfl) ?_ (fun hS => ?_)
              · (refine ⟨?_, ?_, ?_, ?_⟩ <;> (repeat (first | with_reducible exact hS.1 | with_reducible exact hS.2.1 | with_reducible exact hS.2.2.1 | with_reducible exact hS.2.2.2 | with_reducible assumption | with_reducible refine cell_keep ?_ _ | with_reducible refine cell_drew ?_ | with_reducible refine cell_row hneP ?_ | with_reducible refine cell_row hneG ?_ | with_reducible refine cell_row hneP1 ?_ | with_reducible refine cell_row hneG1 ?_ | with_reducible refine cell_row (by omega) ?_ | refine keepc hb20 ?_)))
              refine wpAnyH_take (i := 0) (oi := ⟨some 31, _, _, _, _, _⟩) (v := ?_) rfl (by kernel_rfl) (by kernel_rfl) (by kernel_rfl) (fun _ _ _ h => h) (Or.inl ⟨by rfl, ?_⟩) hS ?_
              rotate_left
              · (intro w' hSw; obtain ⟨s1, s2, s3, s4⟩ := hSw; go_simp; try with_reducible rfl)
              simp only [Act.put, List.setIfInBounds_toArray, List.set_cons_zero, List.set_cons_succ]
              refine wpAnyH_take (i := 1) (oi := ⟨some 32, _, _, _, _, _⟩) (v := ?_) rfl (by kernel_rfl) (by kernel_rfl) (by kernel_rfl) (fun _ _ _ h => h) (Or.inl ⟨by rfl, ?_⟩) hS ?_
              rotate_left
              · (intro w' hSw; obtain ⟨s1, s2, s3, s4⟩ := hSw; go_simp; try with_reducible rfl)
              simp only [Act.put, List.setIfInBounds_toArray, List.set_cons_zero, List.set_cons_succ]
              refine wpAnyH_take (i := 2) (oi := ⟨some 33, _, _, _, _, _⟩) (v := ?_) rfl (by kernel_rfl) (by kernel_rfl) (by kernel_rfl) (fun _ _ _ h => h) (Or.inl ⟨by rfl, ?_⟩) hS ?_
              rotate_left
              · (intro w' hSw; obtain ⟨s1, s2, s3, s4⟩ := hSw; go_simp; try with_reducible rfl)
              simp only [Act.put, List.setIfInBounds_toArray, List.set_cons_zero, List.set_cons_succ]
              refine wpAnyH_take (i := 3) (oi := ⟨some 34, _, _, _, _, _⟩) (v := ?_) rfl (by kernel_rfl) (by kernel_rfl) (by kernel_rfl) (fun _ _ _ h => h) (Or.inl ⟨by rfl, ?_⟩) hS ?_
              rotate_left
              · (intro w' hSw; obtain ⟨s1, s2, s3, s4⟩ := hSw; go_simp; try with_reducible rfl)
              simp only [Act.put, List.setIfInBounds_toArray, List.set_cons_zero, List.set_cons_succ]
              refine wpAnyH_take (i := 4) (oi := ⟨some 35, _, _, _, _, _⟩) (v := ?_) rfl (by kernel_rfl) (by kernel_rfl) (by kernel_rfl) (fun _ _ _ h => h) (Or.inl ⟨by rfl, ?_⟩) hS ?_
              rotate_left
              · (intro w' hSw; obtain ⟨s1, s2, s3, s4⟩ := hSw; go_simp; try with_reducible rfl)
              simp only [Act.put, List.setIfInBounds_toArray, List.set_cons_zero, List.set_cons_succ]
              refine wpAnyH_take (i := 5) (oi := ⟨some 36, _, _, _, _, _⟩) (v := ?_) rfl (by kernel_rfl) (by kernel_rfl) (by kernel_rfl) (fun _ _ _ h => h) (Or.inl ⟨by rfl, ?_⟩) hS ?_
              rotate_left
              · (intro w' hSw; obtain ⟨s1, s2, s3, s4⟩ := hSw; go_simp; try with_reducible rfl)
              simp only [Act.put, List.setIfInBounds_toArray, List.set_cons_zero, List.set_cons_succ]
              refine wpAnyH_take (i := 6) (oi := ⟨some 37, _, _, _, _, _⟩) (v := ?_) rfl (by kernel_rfl) (by kernel_rfl) (by kernel_rfl) (fun _ _ _ h => h) (Or.inl ⟨by rfl, ?_⟩) hS ?_
              rotate_left
              · (intro w' hSw; obtain ⟨s1, s2, s3, s4⟩ := hSw; go_simp; try with_reducible rfl)
              simp only [Act.put, List.setIfInBounds_toArray, List.set_cons_zero, List.set_cons_succ]
              refine wpAnyH_take (i := 7) (oi := ⟨some 38, _, _, _, _, _⟩) (v := ?_) rfl (by kernel_rfl) (by kernel_rfl) (by kernel_rfl) (fun _ _ _ h => h) (Or.inl ⟨by rfl, ?_⟩) hS ?_
              rotate_left
              · (intro w' hSw; obtain ⟨s1, s2, s3, s4⟩ := hSw; go_simp; try with_reducible rfl)
              simp only [Act.put, List.setIfInBounds_toArray, List.set_cons_zero, List.set_cons_succ]
              refine wpAnyH_take (i := 8) (oi := ⟨some 39, _, _, _, _, _⟩) (v := ?_) rfl (by kernel_rfl) (by kernel_rfl) (by kernel_rfl) (fun _ _ _ h => h) (Or.inl ⟨by rfl, ?_⟩) hS ?_
              rotate_left
              · (intro w' hSw; obtain ⟨s1, s2, s3, s4⟩ := hSw; go_simp; try with_reducible rfl)
              simp only [Act.put, List.setIfInBounds_toArray, List.set_cons_zero, List.set_cons_succ]
              refine wpAnyH_take (i := 9) (oi := ⟨some 40, _, _, _, _, _⟩) (v := ?_) rfl (by kernel_rfl) (by kernel_rfl) (by kernel_rfl) (fun _ _ _ h => h) (Or.inl ⟨by rfl, ?_⟩) hS ?_
              rotate_left
              · (intro w' hSw; obtain ⟨s1, s2, s3, s4⟩ := hSw; go_simp; try with_reducible rfl)
              simp only [Act.put, List.setIfInBounds_toArray, List.set_cons_zero, List.set_cons_succ]
              refine wpAnyH_ready (rs := [10, 16, 17]) (by kernel_rfl) (by simp) ?_
              refine AllReadyH.cons (o := ⟨some 41, _, _, _, _, _⟩) rfl (fun K hK => ?_) ?_
              · go_simp
                refine (HT.out _ (HXc.out.below (by go_grown))).mono ?_
                rintro e w20 ⟨f', c', rfl, hO20, hb20⟩
                have hsz20 := hb20.size
                simp at hsz20
                refine hK.out _ _ ?_ (fun hS' => ?_)
                · (refine ⟨?_, ?_, ?_, ?_⟩ <;> (repeat (first | with_reducible exact hS.1 | with_reducible exact hS.2.1 | with_reducible exact hS.2.2.1 | with_reducible exact hS.2.2.2 | with_reducible assumption | with_reducible refine cell_keep ?_ _ | with_reducible refine cell_drew ?_ | with_reducible refine cell_row hneP ?_ | with_reducible refine cell_row hneG ?_ | with_reducible refine cell_row hneP1 ?_ | with_reducible refine cell_row hneG1 ?_ | with_reducible refine cell_row (by omega) ?_ | refine keepc hb20 ?_)))
                clear hK K hS
                have hS := hS'
                clear hS'
                try simp only [Act.put, List.setIfInBounds_toArray, List.set_cons_zero, List.set_cons_succ]
                refine wpAnyH_take (i := 11) (oi := ⟨some 30, _, _, _, _, _⟩) (v := ?_) rfl (by kernel_rfl) (by kernel_rfl) (by kernel_rfl) (fun _ _ _ h => h) (Or.inl ⟨by rfl, ?_⟩) hS ?_
                rotate_left
                · (intro w' hSw; obtain ⟨s1, s2, s3, s4⟩ := hSw; go_simp; try with_reducible rfl)
                simp only [Act.put, List.setIfInBounds_toArray, List.set_cons_zero, List.set_cons_succ]
                refine wpAnyH_take (i := 12) (oi := ⟨some 42, _, _, _, _, _⟩) (v := ?_) rfl (by kernel_rfl) (by kernel_rfl) (by kernel_rfl) (fun _ _ _ h => h) (Or.inl ⟨by rfl, ?_⟩) hS ?_
                rotate_left
                · (intro w' hSw; obtain ⟨s1, s2, s3, s4⟩ := hSw; go_simp; try with_reducible rfl)
                simp only [Act.put, List.setIfInBounds_toArray, List.set_cons_zero, List.set_cons_succ]
                refine wpAnyH_take (i := 13) (oi := ⟨some 43, _, _, _, _, _⟩) (v := ?_) rfl (by kernel_rfl) (by kernel_rfl) (by kernel_rfl) (fun _ _ _ h => h) (Or.inl ⟨by rfl, ?_⟩) hS ?_
                rotate_left
                · (intro w' hSw; obtain ⟨s1, s2, s3, s4⟩ := hSw; go_simp; try with_reducible rfl)
                simp only [Act.put, List.setIfInBounds_toArray, List.set_cons_zero, List.set_cons_succ]
                refine wpAnyH_take (i := 14) (oi := ⟨some 44, _, _, _, _, _⟩) (v := ?_) rfl (by kernel_rfl) (by kernel_rfl) (by kernel_rfl) (fun _ _ _ h => h) (Or.inl ⟨by rfl, ?_⟩) hS ?_
                rotate_left
                · (intro w' hSw; obtain ⟨s1, s2, s3, s4⟩ := hSw; go_simp; try with_reducible rfl)
                simp only [Act.put, List.setIfInBounds_toArray, List.set_cons_zero, List.set_cons_succ]
                refine wpAnyH_take (i := 15) (oi := ⟨some 45, _, _, _, _, _⟩) (v := ?_) rfl (by kernel_rfl) (by kernel_rfl) (by kernel_rfl) (fun _ _ _ h => h) (Or.inl ⟨by rfl, ?_⟩) hS ?_
                rotate_left
                · (intro w' hSw; obtain ⟨s1, s2, s3, s4⟩ := hSw; go_simp; try with_reducible rfl)
                simp only [Act.put, List.setIfInBounds_toArray, List.set_cons_zero, List.set_cons_succ]
                refine wpAnyH_ready (rs := [16, 17]) (by kernel_rfl) (by simp) ?_
                refine AllReadyH.cons (o := ⟨some 5, _, _, _, _, _⟩) rfl (fun K hK => ?_) ?_
                · go_simp
                  refine hK.out _ _ ?_ (fun hS' => ?_)
                  · (refine ⟨?_, ?_, ?_, ?_⟩ <;> (repeat (first | with_reducible exact hS.1 | with_reducible exact hS.2.1 | with_reducible exact hS.2.2.1 | with_reducible exact hS.2.2.2 | with_reducible assumption | with_reducible refine cell_keep ?_ _ | with_reducible refine cell_drew ?_ | with_reducible refine cell_row hneP ?_ | with_reducible refine cell_row hneG ?_ | with_reducible refine cell_row hneP1 ?_ | with_reducible refine cell_row hneG1 ?_ | with_reducible refine cell_row (by omega) ?_ | refine keepc hb20 ?_)))
                  clear hK K hS
                  have hS := hS'
                  clear hS'
                  try simp only [Act.put, List.setIfInBounds_toArray, List.set_cons_zero, List.set_cons_succ]
                  refine wpAnyH_ready (rs := [17]) (by kernel_rfl) (by simp) ?_
                  refine AllReadyH.cons (o := ⟨some 6, _, _, _, _, _⟩) rfl (fun K hK => ?_) AllReadyH.nil
                  go_simp
                  refine hK.out _ _ ?_ (fun hS' => ?_)
                  · (refine ⟨?_, ?_, ?_, ?_⟩ <;> (repeat (first | with_reducible exact hS.1 | with_reducible exact hS.2.1 | with_reducible exact hS.2.2.1 | with_reducible exact hS.2.2.2 | with_reducible assumption | with_reducible refine cell_keep ?_ _ | with_reducible refine cell_drew ?_ | with_reducible refine cell_row hneP ?_ | with_reducible refine cell_row hneG ?_ | with_reducible refine cell_row hneP1 ?_ | with_reducible refine cell_row hneG1 ?_ | with_reducible refine cell_row (by omega) ?_ | refine keepc hb20 ?_)))
                  clear hK K hS
                  have hS := hS'
                  clear hS'
                  try simp only [Act.put, List.setIfInBounds_toArray, List.set_cons_zero, List.set_cons_succ]
                  refine wpAnyH_ready (rs := [18]) (by kernel_rfl) (by simp) ?_
                  refine AllReadyH.cons (o := ⟨none, _, _, _, _, _⟩) rfl (fun K hK => ?_) AllReadyH.nil
                  refine step_storeB rfl 45 _ _ rfl _ _ #[.int .i64 0, .int .i64 0, .bool false, .bool false, .bool false, .bool false, .bool false, .int .i64 0, .int .i64 0] 45 rfl rfl (by kernel_rfl) rfl (by simp [Value.oneCell']) (by repeat' (first | (with_reducible refine BoxAt.newAt _ _ _ _ (by (simp; done))) | with_reducible refine BoxAt.putAny #[] ?_ rfl | (with_reducible refine BoxAt.row ?_ (by first | with_reducible assumption | omega | (simp; done) | (simp; omega))) | with_reducible refine BoxAt.alloc ?_ _ | with_reducible refine BoxAt.drew ?_ | with_reducible refine BoxAt.below ?_ hb20)) ?_
                  refine hK.out _ _ ?_ (fun hS' => ?_)
                  · (refine ⟨?_, ?_, ?_, ?_⟩ <;> (repeat (first | with_reducible exact hS.1 | with_reducible exact hS.2.1 | with_reducible exact hS.2.2.1 | with_reducible exact hS.2.2.2 | with_reducible assumption | with_reducible refine cell_keep ?_ _ | with_reducible refine cell_drew ?_ | with_reducible refine cell_row hneP ?_ | with_reducible refine cell_row hneG ?_ | with_reducible refine cell_row hneP1 ?_ | with_reducible refine cell_row hneG1 ?_ | with_reducible refine cell_row (by omega) ?_ | refine keepc hb20 ?_)))
                  clear hK K hS
                  have hS := hS'
                  clear hS'
                  try simp only [Act.put]
                  refine wpAnyH_ready (rs := [19]) (by kernel_rfl) (by simp) ?_
                  refine AllReadyH.cons (o := ⟨none, _, _, _, _, _⟩) rfl (fun K hK => ?_) AllReadyH.nil
                  refine step_storeB rfl 47 _ _ rfl _ _ #[.int .i64 0, .int .i64 0, .int .i64 0, .bool false, .int .i64 0] 47 rfl rfl (by kernel_rfl) rfl (by simp [Value.oneCell']) (by repeat' (first | (with_reducible refine BoxAt.newAt _ _ _ _ (by (simp; done))) | with_reducible refine BoxAt.putAny #[] ?_ rfl | (with_reducible refine BoxAt.row ?_ (by first | with_reducible assumption | omega | (simp; done) | (simp; omega))) | with_reducible refine BoxAt.alloc ?_ _ | with_reducible refine BoxAt.drew ?_ | with_reducible refine BoxAt.below ?_ hb20)) ?_
                  refine hK.out _ _ ?_ (fun hS' => ?_)
                  · (refine ⟨?_, ?_, ?_, ?_⟩ <;> (repeat (first | with_reducible exact hS.1 | with_reducible exact hS.2.1 | with_reducible exact hS.2.2.1 | with_reducible exact hS.2.2.2 | with_reducible assumption | with_reducible refine cell_keep ?_ _ | with_reducible refine cell_drew ?_ | with_reducible refine cell_row hneP ?_ | with_reducible refine cell_row hneG ?_ | with_reducible refine cell_row hneP1 ?_ | with_reducible refine cell_row hneG1 ?_ | with_reducible refine cell_row (by omega) ?_ | refine keepc hb20 ?_)))
                  clear hK K hS
                  have hS := hS'
                  clear hS'
                  try simp only [Act.put]
                  refine wpAnyH_take (i := 20) (oi := ⟨some 7, _, _, _, _, _⟩) (v := ?_) rfl (by kernel_rfl) (by kernel_rfl) (by kernel_rfl) (fun _ _ _ h => h) (Or.inl ⟨by rfl, ?_⟩) hS ?_
                  rotate_left
                  · (intro w' hSw; obtain ⟨s1, s2, s3, s4⟩ := hSw; go_simp; try with_reducible rfl)
                  simp only [Act.put, List.setIfInBounds_toArray, List.set_cons_zero, List.set_cons_succ]
                  refine wpAnyH_take (i := 21) (oi := ⟨some 8, _, _, _, _, _⟩) (v := ?_) rfl (by kernel_rfl) (by kernel_rfl) (by kernel_rfl) (fun _ _ _ h => h) (Or.inl ⟨by rfl, ?_⟩) hS ?_
                  rotate_left
                  · (intro w' hSw; obtain ⟨s1, s2, s3, s4⟩ := hSw; go_simp; try with_reducible rfl)
                  simp only [Act.put, List.setIfInBounds_toArray, List.set_cons_zero, List.set_cons_succ]
                  refine wpAnyH_done (by kernel_rfl) ?_ _
                  show KK _ _
                  refine hKK _ _ (Met.intro (hJJ _ _ ?_))
                  (repeat apply Exists.intro)
                  refine ⟨?_, rfl⟩
                  refine ⟨w20.heap.size, w20.heap.size + 1, f', c', rfl, rfl, rfl, rfl, (by omega), (by omega), (by first | omega | (simp; done)), ?_, ?_, ?_, ?_⟩
                  · show Below _ _ _
                    repeat' (first | with_reducible exact Below.refl wr.heap.size wr | (with_reducible refine Below.rowB ?_ (by first | omega | (simp; done) | (simp; omega))) | with_reducible refine Below.setCell ?_ (by first | omega | (simp; done) | (simp; omega)) _ | with_reducible refine bel_alloc ?_ _ | with_reducible refine Below.drew ?_ | with_reducible refine bel_trans ?_ hb20)
                  · show BoxAt _ _ _ _
                    repeat' (first | (with_reducible refine BoxAt.newAt _ _ _ _ (by (simp; done))) | with_reducible refine BoxAt.putAny #[.int .i64 0, .int .i64 0, .bool false, .bool false, .bool false, .bool false, .bool false, .int .i64 0, .int .i64 0] ?_ rfl | (with_reducible refine BoxAt.row ?_ (by first | with_reducible assumption | omega | (simp; done) | (simp; omega))) | with_reducible refine BoxAt.alloc ?_ _ | with_reducible refine BoxAt.drew ?_ | with_reducible refine BoxAt.below ?_ hb20)
                  · show BoxAt _ _ _ _
                    repeat' (first | (with_reducible refine BoxAt.newAt _ _ _ _ (by (simp; done))) | with_reducible refine BoxAt.putAny #[.int .i64 0, .int .i64 0, .int .i64 0, .bool false, .int .i64 0] ?_ rfl | (with_reducible refine BoxAt.row ?_ (by first | with_reducible assumption | omega | (simp; done) | (simp; omega))) | with_reducible refine BoxAt.alloc ?_ _ | with_reducible refine BoxAt.drew ?_ | with_reducible refine BoxAt.below ?_ hb20)
                  · show OwnI _ _ _ _
                    have hO21 := OwnI.mono hO20 (base' := wr.heap.size) (by first | omega | (simp; done))
                    refine OwnI.mono (base := wr.heap.size) ?_ (by omega)
                    repeat' (first | with_reducible exact hO21 | (with_reducible refine OwnI.rowHi hO21 ?_ (by omega)) | (with_reducible refine OwnI.row ?_ (by first | omega | (simp; done) | (simp; omega))) | with_reducible refine OwnI.other ?_ _ _ (by first | with_reducible assumption | (simp; done) | (simp; omega)) | with_reducible refine OwnI.alloc ?_ _ | with_reducible refine OwnI.drew ?_)
                refine AllReadyH.cons (o := ⟨some 6, _, _, _, _, _⟩) rfl (fun K hK => ?_) AllReadyH.nil
                go_simp
                refine hK.out _ _ ?_ (fun hS' => ?_)
                · (refine ⟨?_, ?_, ?_, ?_⟩ <;> (repeat (first | with_reducible exact hS.1 | with_reducible exact hS.2.1 | with_reducible exact hS.2.2.1 | with_reducible exact hS.2.2.2 | with_reducible assumption | with_reducible refine cell_keep ?_ _ | with_reducible refine cell_drew ?_ | with_reducible refine cell_row hneP ?_ | with_reducible refine cell_row hneG ?_ | with_reducible refine cell_row hneP1 ?_ | with_reducible refine cell_row hneG1 ?_ | with_reducible refine cell_row (by omega) ?_ | refine keepc hb20 ?_)))
                clear hK K hS
                have hS := hS'
                clear hS'
                try simp only [Act.put, List.setIfInBounds_toArray, List.set_cons_zero, List.set_cons_succ]
                refine wpAnyH_ready (rs := [16]) (by kernel_rfl) (by simp) ?_
                refine AllReadyH.cons (o := ⟨some 5, _, _, _, _, _⟩) rfl (fun K hK => ?_) AllReadyH.nil
                go_simp
                refine hK.out _ _ ?_ (fun hS' => ?_)
                · (refine ⟨?_, ?_, ?_, ?_⟩ <;> (repeat (first | with_reducible exact hS.1 | with_reducible exact hS.2.1 | with_reducible exact hS.2.2.1 | with_reducible exact hS.2.2.2 | with_reducible assumption | with_reducible refine cell_keep ?_ _ | with_reducible refine cell_drew ?_ | with_reducible refine cell_row hneP ?_ | with_reducible refine cell_row hneG ?_ | with_reducible refine cell_row hneP1 ?_ | with_reducible refine cell_row hneG1 ?_ | with_reducible refine cell_row (by omega) ?_ | refine keepc hb20 ?_)))
                clear hK K hS
                have hS := hS'
                clear hS'
                try simp only [Act.put, List.setIfInBounds_toArray, List.set_cons_zero, List.set_cons_succ]
                refine wpAnyH_ready (rs := [18]) (by kernel_rfl) (by simp) ?_
                refine AllReadyH.cons (o := ⟨none, _, _, _, _, _⟩) rfl (fun K hK => ?_) AllReadyH.nil
                refine step_storeB rfl 45 _ _ rfl _ _ #[.int .i64 0, .int .i64 0, .bool false, .bool false, .bool false, .bool false, .bool false, .int .i64 0, .int .i64 0] 45 rfl rfl (by kernel_rfl) rfl (by simp [Value.oneCell']) (by repeat' (first | (with_reducible refine BoxAt.newAt _ _ _ _ (by (simp; done))) | with_reducible refine BoxAt.putAny #[] ?_ rfl | (with_reducible refine BoxAt.row ?_ (by first | with_reducible assumption | omega | (simp; done) | (simp; omega))) | with_reducible refine BoxAt.alloc ?_ _ | with_reducible refine BoxAt.drew ?_ | with_reducible refine BoxAt.below ?_ hb20)) ?_
                refine hK.out _ _ ?_ (fun hS' => ?_)
                · (refine ⟨?_, ?_, ?_, ?_⟩ <;> (repeat (first | with_reducible exact hS.1 | with_reducible exact hS.2.1 | with_reducible exact hS.2.2.1 | with_reducible exact hS.2.2.2 | with_reducible assumption | with_reducible refine cell_keep ?_ _ | with_reducible refine cell_drew ?_ | with_reducible refine cell_row hneP ?_ | with_reducible refine cell_row hneG ?_ | with_reducible refine cell_row hneP1 ?_ | with_reducible refine cell_row hneG1 ?_ | with_reducible refine cell_row (by omega) ?_ | refine keepc hb20 ?_)))
                clear hK K hS
                have hS := hS'
                clear hS'
                try simp only [Act.put]
                refine wpAnyH_ready (rs := [19]) (by kernel_rfl) (by simp) ?_
                refine AllReadyH.cons (o := ⟨none, _, _, _, _, _⟩) rfl (fun K hK => ?_) AllReadyH.nil
                refine step_storeB rfl 47 _ _ rfl _ _ #[.int .i64 0, .int .i64 0, .int .i64 0, .bool false, .int .i64 0] 47 rfl rfl (by kernel_rfl) rfl (by simp [Value.oneCell']) (by repeat' (first | (with_reducible refine BoxAt.newAt _ _ _ _ (by (simp; done))) | with_reducible refine BoxAt.putAny #[] ?_ rfl | (with_reducible refine BoxAt.row ?_ (by first | with_reducible assumption | omega | (simp; done) | (simp; omega))) | with_reducible refine BoxAt.alloc ?_ _ | with_reducible refine BoxAt.drew ?_ | with_reducible refine BoxAt.below ?_ hb20)) ?_
                refine hK.out _ _ ?_ (fun hS' => ?_)
                · (refine ⟨?_, ?_, ?_, ?_⟩ <;> (repeat (first | with_reducible exact hS.1 | with_reducible exact hS.2.1 | with_reducible exact hS.2.2.1 | with_reducible exact hS.2.2.2 | with_reducible assumption | with_reducible refine cell_keep ?_ _ | with_reducible refine cell_drew ?_ | with_reducible refine cell_row hneP ?_ | with_reducible refine cell_row hneG ?_ | with_reducible refine cell_row hneP1 ?_ | with_reducible refine cell_row hneG1 ?_ | with_reducible refine cell_row (by omega) ?_ | refine keepc hb20 ?_)))
                clear hK K hS
                have hS := hS'
                clear hS'
                try simp only [Act.put]
                refine wpAnyH_take (i := 20) (oi := ⟨some 7, _, _, _, _, _⟩) (v := ?_) rfl (by kernel_rfl) (by kernel_rfl) (by kernel_rfl) (fun _ _ _ h => h) (Or.inl ⟨by rfl, ?_⟩) hS ?_
                rotate_left
                · (intro w' hSw; obtain ⟨s1, s2, s3, s4⟩ := hSw; go_simp; try with_reducible rfl)
                simp only [Act.put, List.setIfInBounds_toArray, List.set_cons_zero, List.set_cons_succ]
                refine wpAnyH_take (i := 21) (oi := ⟨some 8, _, _, _, _, _⟩) (v := ?_) rfl (by kernel_rfl) (by kernel_rfl) (by kernel_rfl) (fun _ _ _ h => h) (Or.inl ⟨by rfl, ?_⟩) hS ?_
                rotate_left
                · (intro w' hSw; obtain ⟨s1, s2, s3, s4⟩ := hSw; go_simp; try with_reducible rfl)
                simp only [Act.put, List.setIfInBounds_toArray, List.set_cons_zero, List.set_cons_succ]
                refine wpAnyH_done (by kernel_rfl) ?_ _
                show KK _ _
                refine hKK _ _ (Met.intro (hJJ _ _ ?_))
                (repeat apply Exists.intro)
                refine ⟨?_, rfl⟩
                refine ⟨w20.heap.size + 1, w20.heap.size, f', c', rfl, rfl, rfl, rfl, (by omega), (by omega), (by first | omega | (simp; done)), ?_, ?_, ?_, ?_⟩
                · show Below _ _ _
                  repeat' (first | with_reducible exact Below.refl wr.heap.size wr | (with_reducible refine Below.rowB ?_ (by first | omega | (simp; done) | (simp; omega))) | with_reducible refine Below.setCell ?_ (by first | omega | (simp; done) | (simp; omega)) _ | with_reducible refine bel_alloc ?_ _ | with_reducible refine Below.drew ?_ | with_reducible refine bel_trans ?_ hb20)
                · show BoxAt _ _ _ _
                  repeat' (first | (with_reducible refine BoxAt.newAt _ _ _ _ (by (simp; done))) | with_reducible refine BoxAt.putAny #[.int .i64 0, .int .i64 0, .bool false, .bool false, .bool false, .bool false, .bool false, .int .i64 0, .int .i64 0] ?_ rfl | (with_reducible refine BoxAt.row ?_ (by first | with_reducible assumption | omega | (simp; done) | (simp; omega))) | with_reducible refine BoxAt.alloc ?_ _ | with_reducible refine BoxAt.drew ?_ | with_reducible refine BoxAt.below ?_ hb20)
                · show BoxAt _ _ _ _
                  repeat' (first | (with_reducible refine BoxAt.newAt _ _ _ _ (by (simp; done))) | with_reducible refine BoxAt.putAny #[.int .i64 0, .int .i64 0, .int .i64 0, .bool false, .int .i64 0] ?_ rfl | (with_reducible refine BoxAt.row ?_ (by first | with_reducible assumption | omega | (simp; done) | (simp; omega))) | with_reducible refine BoxAt.alloc ?_ _ | with_reducible refine BoxAt.drew ?_ | with_reducible refine BoxAt.below ?_ hb20)
                · show OwnI _ _ _ _
                  have hO21 := OwnI.mono hO20 (base' := wr.heap.size) (by first | omega | (simp; done))
                  refine OwnI.mono (base := wr.heap.size) ?_ (by omega)
                  repeat' (first | with_reducible exact hO21 | (with_reducible refine OwnI.rowHi hO21 ?_ (by omega)) | (with_reducible refine OwnI.row ?_ (by first | omega | (simp; done) | (simp; omega))) | with_reducible refine OwnI.other ?_ _ _ (by first | with_reducible assumption | (simp; done) | (simp; omega)) | with_reducible refine OwnI.alloc ?_ _ | with_reducible refine OwnI.drew ?_)
              refine AllReadyH.cons (o := ⟨some 5, _, _, _, _, _⟩) rfl (fun K hK => ?_) ?_
              · go_simp
                refine hK.out _ _ ?_ (fun hS' => ?_)
                · (refine ⟨?_, ?_, ?_, ?_⟩ <;> (repeat (first | with_reducible exact hS.1 | with_reducible exact hS.2.1 | with_reducible exact hS.2.2.1 | with_reducible exact hS.2.2.2 | with_reducible assumption | with_reducible refine cell_keep ?_ _ | with_reducible refine cell_drew ?_ | with_reducible refine cell_row hneP ?_ | with_reducible refine cell_row hneG ?_ | with_reducible refine cell_row hneP1 ?_ | with_reducible refine cell_row hneG1 ?_ | with_reducible refine cell_row (by omega) ?_ | refine keepc hb20 ?_)))
                clear hK K hS
                have hS := hS'
                clear hS'
                try simp only [Act.put, List.setIfInBounds_toArray, List.set_cons_zero, List.set_cons_succ]
                refine wpAnyH_ready (rs := [10, 17]) (by kernel_rfl) (by simp) ?_
                refine AllReadyH.cons (o := ⟨some 41, _, _, _, _, _⟩) rfl (fun K hK => ?_) ?_
                · go_simp
                  refine (HT.out _ (HXc.out.below (by go_grown))).mono ?_
                  rintro e w20 ⟨f', c', rfl, hO20, hb20⟩
                  have hsz20 := hb20.size
                  simp at hsz20
                  refine hK.out _ _ ?_ (fun hS' => ?_)
                  · (refine ⟨?_, ?_, ?_, ?_⟩ <;> (repeat (first | with_reducible exact hS.1 | with_reducible exact hS.2.1 | with_reducible exact hS.2.2.1 | with_reducible exact hS.2.2.2 | with_reducible assumption | with_reducible refine cell_keep ?_ _ | with_reducible refine cell_drew ?_ | with_reducible refine cell_row hneP ?_ | with_reducible refine cell_row hneG ?_ | with_reducible refine cell_row hneP1 ?_ | with_reducible refine cell_row hneG1 ?_ | with_reducible refine cell_row (by omega) ?_ | refine keepc hb20 ?_)))
                  clear hK K hS
                  have hS := hS'
                  clear hS'
                  try simp only [Act.put, List.setIfInBounds_toArray, List.set_cons_zero, List.set_cons_succ]
                  refine wpAnyH_take (i := 11) (oi := ⟨some 30, _, _, _, _, _⟩) (v := ?_) rfl (by kernel_rfl) (by kernel_rfl) (by kernel_rfl) (fun _ _ _ h => h) (Or.inl ⟨by rfl, ?_⟩) hS ?_
                  rotate_left
                  · (intro w' hSw; obtain ⟨s1, s2, s3, s4⟩ := hSw; go_simp; try with_reducible rfl)
                  simp only [Act.put, List.setIfInBounds_toArray, List.set_cons_zero, List.set_cons_succ]
                  refine wpAnyH_take (i := 12) (oi := ⟨some 42, _, _, _, _, _⟩) (v := ?_) rfl (by kernel_rfl) (by kernel_rfl) (by kernel_rfl) (fun _ _ _ h => h) (Or.inl ⟨by rfl, ?_⟩) hS ?_
                  rotate_left
                  · (intro w' hSw; obtain ⟨s1, s2, s3, s4⟩ := hSw; go_simp; try with_reducible rfl)
                  simp only [Act.put, List.setIfInBounds_toArray, List.set_cons_zero, List.set_cons_succ]
                  refine wpAnyH_take (i := 13) (oi := ⟨some 43, _, _, _, _, _⟩) (v := ?_) rfl (by kernel_rfl) (by kernel_rfl) (by kernel_rfl) (fun _ _ _ h => h) (Or.inl ⟨by rfl, ?_⟩) hS ?_
                  rotate_left
                  · (intro w' hSw; obtain ⟨s1, s2, s3, s4⟩ := hSw; go_simp; try with_reducible rfl)
                  simp only [Act.put, List.setIfInBounds_toArray, List.set_cons_zero, List.set_cons_succ]
                  refine wpAnyH_take (i := 14) (oi := ⟨some 44, _, _, _, _, _⟩) (v := ?_) rfl (by kernel_rfl) (by kernel_rfl) (by kernel_rfl) (fun _ _ _ h => h) (Or.inl ⟨by rfl, ?_⟩) hS ?_
                  rotate_left
                  · (intro w' hSw; obtain ⟨s1, s2, s3, s4⟩ := hSw; go_simp; try with_reducible rfl)
                  simp only [Act.put, List.setIfInBounds_toArray, List.set_cons_zero, List.set_cons_succ]
                  refine wpAnyH_take (i := 15) (oi := ⟨some 45, _, _, _, _, _⟩) (v := ?_) rfl (by kernel_rfl) (by kernel_rfl) (by kernel_rfl) (fun _ _ _ h => h) (Or.inl ⟨by rfl, ?_⟩) hS ?_
                  rotate_left
                  · (intro w' hSw; obtain ⟨s1, s2, s3, s4⟩ := hSw; go_simp; try with_reducible rfl)
                  simp only [Act.put, List.setIfInBounds_toArray, List.set_cons_zero, List.set_cons_succ]
                  refine wpAnyH_ready (rs := [17]) (by kernel_rfl) (by simp) ?_
                  refine AllReadyH.cons (o := ⟨some 6, _, _, _, _, _⟩) rfl (fun K hK => ?_) AllReadyH.nil
                  go_simp
                  refine hK.out _ _ ?_ (fun hS' => ?_)
                  · (refine ⟨?_, ?_, ?_, ?_⟩ <;> (repeat (first | with_reducible exact hS.1 | with_reducible exact hS.2.1 | with_reducible exact hS.2.2.1 | with_reducible exact hS.2.2.2 | with_reducible assumption | with_reducible refine cell_keep ?_ _ | with_reducible refine cell_drew ?_ | with_reducible refine cell_row hneP ?_ | with_reducible refine cell_row hneG ?_ | with_reducible refine cell_row hneP1 ?_ | with_reducible refine cell_row hneG1 ?_ | with_reducible refine cell_row (by omega) ?_ | refine keepc hb20 ?_)))
                  clear hK K hS
                  have hS := hS'
                  clear hS'
                  try simp only [Act.put, List.setIfInBounds_toArray, List.set_cons_zero, List.set_cons_succ]
                  refine wpAnyH_ready (rs := [18]) (by kernel_rfl) (by simp) ?_
                  refine AllReadyH.cons (o := ⟨none, _, _, _, _, _⟩) rfl (fun K hK => ?_) AllReadyH.nil
                  refine step_storeB rfl 45 _ _ rfl _ _ #[.int .i64 0, .int .i64 0, .bool false, .bool false, .bool false, .bool false, .bool false, .int .i64 0, .int .i64 0] 45 rfl rfl (by kernel_rfl) rfl (by simp [Value.oneCell']) (by repeat' (first | (with_reducible refine BoxAt.newAt _ _ _ _ (by (simp; done))) | with_reducible refine BoxAt.putAny #[] ?_ rfl | (with_reducible refine BoxAt.row ?_ (by first | with_reducible assumption | omega | (simp; done) | (simp; omega))) | with_reducible refine BoxAt.alloc ?_ _ | with_reducible refine BoxAt.drew ?_ | with_reducible refine BoxAt.below ?_ hb20)) ?_
                  refine hK.out _ _ ?_ (fun hS' => ?_)
                  · (refine ⟨?_, ?_, ?_, ?_⟩ <;> (repeat (first | with_reducible exact hS.1 | with_reducible exact hS.2.1 | with_reducible exact hS.2.2.1 | with_reducible exact hS.2.2.2 | with_reducible assumption | with_reducible refine cell_keep ?_ _ | with_reducible refine cell_drew ?_ | with_reducible refine cell_row hneP ?_ | with_reducible refine cell_row hneG ?_ | with_reducible refine cell_row hneP1 ?_ | with_reducible refine cell_row hneG1 ?_ | with_reducible refine cell_row (by omega) ?_ | refine keepc hb20 ?_)))
                  clear hK K hS
                  have hS := hS'
                  clear hS'
                  try simp only [Act.put]
                  refine wpAnyH_ready (rs := [19]) (by kernel_rfl) (by simp) ?_
                  refine AllReadyH.cons (o := ⟨none, _, _, _, _, _⟩) rfl (fun K hK => ?_) AllReadyH.nil
                  refine step_storeB rfl 47 _ _ rfl _ _ #[.int .i64 0, .int .i64 0, .int .i64 0, .bool false, .int .i64 0] 47 rfl rfl (by kernel_rfl) rfl (by simp [Value.oneCell']) (by repeat' (first | (with_reducible refine BoxAt.newAt _ _ _ _ (by (simp; done))) | with_reducible refine BoxAt.putAny #[] ?_ rfl | (with_reducible refine BoxAt.row ?_ (by first | with_reducible assumption | omega | (simp; done) | (simp; omega))) | with_reducible refine BoxAt.alloc ?_ _ | with_reducible refine BoxAt.drew ?_ | with_reducible refine BoxAt.below ?_ hb20)) ?_
                  refine hK.out _ _ ?_ (fun hS' => ?_)
                  · (refine ⟨?_, ?_, ?_, ?_⟩ <;> (repeat (first | with_reducible exact hS.1 | with_reducible exact hS.2.1 | with_reducible exact hS.2.2.1 | with_reducible exact hS.2.2.2 | with_reducible assumption | with_reducible refine cell_keep ?_ _ | with_reducible refine cell_drew ?_ | with_reducible refine cell_row hneP ?_ | with_reducible refine cell_row hneG ?_ | with_reducible refine cell_row hneP1 ?_ | with_reducible refine cell_row hneG1 ?_ | with_reducible refine cell_row (by omega) ?_ | refine keepc hb20 ?_)))
                  clear hK K hS
                  have hS := hS'
                  clear hS'
                  try simp only [Act.put]
                  refine wpAnyH_take (i := 20) (oi := ⟨some 7, _, _, _, _, _⟩) (v := ?_) rfl (by kernel_rfl) (by kernel_rfl) (by kernel_rfl) (fun _ _ _ h => h) (Or.inl ⟨by rfl, ?_⟩) hS ?_
                  rotate_left
                  · (intro w' hSw; obtain ⟨s1, s2, s3, s4⟩ := hSw; go_simp; try with_reducible rfl)
                  simp only [Act.put, List.setIfInBounds_toArray, List.set_cons_zero, List.set_cons_succ]
                  refine wpAnyH_take (i := 21) (oi := ⟨some 8, _, _, _, _, _⟩) (v := ?_) rfl (by kernel_rfl) (by kernel_rfl) (by kernel_rfl) (fun _ _ _ h => h) (Or.inl ⟨by rfl, ?_⟩) hS ?_
                  rotate_left
                  · (intro w' hSw; obtain ⟨s1, s2, s3, s4⟩ := hSw; go_simp; try with_reducible rfl)
                  simp only [Act.put, List.setIfInBounds_toArray, List.set_cons_zero, List.set_cons_succ]
                  refine wpAnyH_done (by kernel_rfl) ?_ _
                  show KK _ _
                  refine hKK _ _ (Met.intro (hJJ _ _ ?_))
                  (repeat apply Exists.intro)
                  refine ⟨?_, rfl⟩
                  refine ⟨wr.heap.size, w20.heap.size, f', c', rfl, rfl, rfl, rfl, (by omega), (by omega), (by first | omega | (simp; done)), ?_, ?_, ?_, ?_⟩
                  · show Below _ _ _
                    repeat' (first | with_reducible exact Below.refl wr.heap.size wr | (with_reducible refine Below.rowB ?_ (by first | omega | (simp; done) | (simp; omega))) | with_reducible refine Below.setCell ?_ (by first | omega | (simp; done) | (simp; omega)) _ | with_reducible refine bel_alloc ?_ _ | with_reducible refine Below.drew ?_ | with_reducible refine bel_trans ?_ hb20)
                  · show BoxAt _ _ _ _
                    repeat' (first | (with_reducible refine BoxAt.newAt _ _ _ _ (by (simp; done))) | with_reducible refine BoxAt.putAny #[.int .i64 0, .int .i64 0, .bool false, .bool false, .bool false, .bool false, .bool false, .int .i64 0, .int .i64 0] ?_ rfl | (with_reducible refine BoxAt.row ?_ (by first | with_reducible assumption | omega | (simp; done) | (simp; omega))) | with_reducible refine BoxAt.alloc ?_ _ | with_reducible refine BoxAt.drew ?_ | with_reducible refine BoxAt.below ?_ hb20)
                  · show BoxAt _ _ _ _
                    repeat' (first | (with_reducible refine BoxAt.newAt _ _ _ _ (by (simp; done))) | with_reducible refine BoxAt.putAny #[.int .i64 0, .int .i64 0, .int .i64 0, .bool false, .int .i64 0] ?_ rfl | (with_reducible refine BoxAt.row ?_ (by first | with_reducible assumption | omega | (simp; done) | (simp; omega))) | with_reducible refine BoxAt.alloc ?_ _ | with_reducible refine BoxAt.drew ?_ | with_reducible refine BoxAt.below ?_ hb20)
                  · show OwnI _ _ _ _
                    have hO21 := OwnI.mono hO20 (base' := wr.heap.size + 1) (by first | omega | (simp; done))
                    refine OwnI.mono (base := wr.heap.size + 1) ?_ (by omega)
                    repeat' (first | with_reducible exact hO21 | (with_reducible refine OwnI.rowHi hO21 ?_ (by omega)) | (with_reducible refine OwnI.row ?_ (by first | omega | (simp; done) | (simp; omega))) | with_reducible refine OwnI.other ?_ _ _ (by first | with_reducible assumption | (simp; done) | (simp; omega)) | with_reducible refine OwnI.alloc ?_ _ | with_reducible refine OwnI.drew ?_)
                refine AllReadyH.cons (o := ⟨some 6, _, _, _, _, _⟩) rfl (fun K hK => ?_) AllReadyH.nil
                go_simp
                refine hK.out _ _ ?_ (fun hS' => ?_)
                · (refine ⟨?_, ?_, ?_, ?_⟩ <;> (repeat (first | with_reducible exact hS.1 | with_reducible exact hS.2.1 | with_reducible exact hS.2.2.1 | with_reducible exact hS.2.2.2 | with_reducible assumption | with_reducible refine cell_keep ?_ _ | with_reducible refine cell_drew ?_ | with_reducible refine cell_row hneP ?_ | with_reducible refine cell_row hneG ?_ | with_reducible refine cell_row hneP1 ?_ | with_reducible refine cell_row hneG1 ?_ | with_reducible refine cell_row (by omega) ?_ | refine keepc hb20 ?_)))
                clear hK K hS
                have hS := hS'
                clear hS'
                try simp only [Act.put, List.setIfInBounds_toArray, List.set_cons_zero, List.set_cons_succ]
                refine wpAnyH_ready (rs := [10]) (by kernel_rfl) (by simp) ?_
                refine AllReadyH.cons (o := ⟨some 41, _, _, _, _, _⟩) rfl (fun K hK => ?_) AllReadyH.nil
                go_simp
                refine (HT.out _ (HXc.out.below (by go_grown))).mono ?_
                rintro e w20 ⟨f', c', rfl, hO20, hb20⟩
                have hsz20 := hb20.size
                simp at hsz20
                refine hK.out _ _ ?_ (fun hS' => ?_)
                · (refine ⟨?_, ?_, ?_, ?_⟩ <;> (repeat (first | with_reducible exact hS.1 | with_reducible exact hS.2.1 | with_reducible exact hS.2.2.1 | with_reducible exact hS.2.2.2 | with_reducible assumption | with_reducible refine cell_keep ?_ _ | with_reducible refine cell_drew ?_ | with_reducible refine cell_row hneP ?_ | with_reducible refine cell_row hneG ?_ | with_reducible refine cell_row hneP1 ?_ | with_reducible refine cell_row hneG1 ?_ | with_reducible refine cell_row (by omega) ?_ | refine keepc hb20 ?_)))
                clear hK K hS
                have hS := hS'
                clear hS'
                try simp only [Act.put, List.setIfInBounds_toArray, List.set_cons_zero, List.set_cons_succ]
                refine wpAnyH_take (i := 11) (oi := ⟨some 30, _, _, _, _, _⟩) (v := ?_) rfl (by kernel_rfl) (by kernel_rfl) (by kernel_rfl) (fun _ _ _ h => h) (Or.inl ⟨by rfl, ?_⟩) hS ?_
                rotate_left
                · (intro w' hSw; obtain ⟨s1, s2, s3, s4⟩ := hSw; go_simp; try with_reducible rfl)
                simp only [Act.put, List.setIfInBounds_toArray, List.set_cons_zero, List.set_cons_succ]
                refine wpAnyH_take (i := 12) (oi := ⟨some 42, _, _, _, _, _⟩) (v := ?_) rfl (by kernel_rfl) (by kernel_rfl) (by kernel_rfl) (fun _ _ _ h => h) (Or.inl ⟨by rfl, ?_⟩) hS ?_
                rotate_left
                · (intro w' hSw; obtain ⟨s1, s2, s3, s4⟩ := hSw; go_simp; try with_reducible rfl)
                simp only [Act.put, List.setIfInBounds_toArray, List.set_cons_zero, List.set_cons_succ]
                refine wpAnyH_take (i := 13) (oi := ⟨some 43, _, _, _, _, _⟩) (v := ?_) rfl (by kernel_rfl) (by kernel_rfl) (by kernel_rfl) (fun _ _ _ h => h) (Or.inl ⟨by rfl, ?_⟩) hS ?_
                rotate_left
                · (intro w' hSw; obtain ⟨s1, s2, s3, s4⟩ := hSw; go_simp; try with_reducible rfl)
                simp only [Act.put, List.setIfInBounds_toArray, List.set_cons_zero, List.set_cons_succ]
                refine wpAnyH_take (i := 14) (oi := ⟨some 44, _, _, _, _, _⟩) (v := ?_) rfl (by kernel_rfl) (by kernel_rfl) (by kernel_rfl) (fun _ _ _ h => h) (Or.inl ⟨by rfl, ?_⟩) hS ?_
                rotate_left
                · (intro w' hSw; obtain ⟨s1, s2, s3, s4⟩ := hSw; go_simp; try with_reducible rfl)
                simp only [Act.put, List.setIfInBounds_toArray, List.set_cons_zero, List.set_cons_succ]
                refine wpAnyH_take (i := 15) (oi := ⟨some 45, _, _, _, _, _⟩) (v := ?_) rfl (by kernel_rfl) (by kernel_rfl) (by kernel_rfl) (fun _ _ _ h => h) (Or.inl ⟨by rfl, ?_⟩) hS ?_
                rotate_left
                · (intro w' hSw; obtain ⟨s1, s2, s3, s4⟩ := hSw; go_simp; try with_reducible rfl)
                simp only [Act.put, List.setIfInBounds_toArray, List.set_cons_zero, List.set_cons_succ]
                refine wpAnyH_ready (rs := [18]) (by kernel_rfl) (by simp) ?_
                refine AllReadyH.cons (o := ⟨none, _, _, _, _, _⟩) rfl (fun K hK => ?_) AllReadyH.nil
                refine step_storeB rfl 45 _ _ rfl _ _ #[.int .i64 0, .int .i64 0, .bool false, .bool false, .bool false, .bool false, .bool false, .int .i64 0, .int .i64 0] 45 rfl rfl (by kernel_rfl) rfl (by simp [Value.oneCell']) (by repeat' (first | (with_reducible refine BoxAt.newAt _ _ _ _ (by (simp; done))) | with_reducible refine BoxAt.putAny #[] ?_ rfl | (with_reducible refine BoxAt.row ?_ (by first | with_reducible assumption | omega | (simp; done) | (simp; omega))) | with_reducible refine BoxAt.alloc ?_ _ | with_reducible refine BoxAt.drew ?_ | with_reducible refine BoxAt.below ?_ hb20)) ?_
                refine hK.out _ _ ?_ (fun hS' => ?_)
                · (refine ⟨?_, ?_, ?_, ?_⟩ <;> (repeat (first | with_reducible exact hS.1 | with_reducible exact hS.2.1 | with_reducible exact hS.2.2.1 | with_reducible exact hS.2.2.2 | with_reducible assumption | with_reducible refine cell_keep ?_ _ | with_reducible refine cell_drew ?_ | with_reducible refine cell_row hneP ?_ | with_reducible refine cell_row hneG ?_ | with_reducible refine cell_row hneP1 ?_ | with_reducible refine cell_row hneG1 ?_ | with_reducible refine cell_row (by omega) ?_ | refine keepc hb20 ?_)))
                clear hK K hS
                have hS := hS'
                clear hS'
                try simp only [Act.put]
                refine wpAnyH_ready (rs := [19]) (by kernel_rfl) (by simp) ?_
                refine AllReadyH.cons (o := ⟨none, _, _, _, _, _⟩) rfl (fun K hK => ?_) AllReadyH.nil
                refine step_storeB rfl 47 _ _ rfl _ _ #[.int .i64 0, .int .i64 0, .int .i64 0, .bool false, .int .i64 0] 47 rfl rfl (by kernel_rfl) rfl (by simp [Value.oneCell']) (by repeat' (first | (with_reducible refine BoxAt.newAt _ _ _ _ (by (simp; done))) | with_reducible refine BoxAt.putAny #[] ?_ rfl | (with_reducible refine BoxAt.row ?_ (by first | with_reducible assumption | omega | (simp; done) | (simp; omega))) | with_reducible refine BoxAt.alloc ?_ _ | with_reducible refine BoxAt.drew ?_ | with_reducible refine BoxAt.below ?_ hb20)) ?_
                refine hK.out _ _ ?_ (fun hS' => ?_)
                · (refine ⟨?_, ?_, ?_, ?_⟩ <;> (repeat (first | with_reducible exact hS.1 | with_reducible exact hS.2.1 | with_reducible exact hS.2.2.1 | with_reducible exact hS.2.2.2 | with_reducible assumption | with_reducible refine cell_keep ?_ _ | with_reducible refine cell_drew ?_ | with_reducible refine cell_row hneP ?_ | with_reducible refine cell_row hneG ?_ | with_reducible refine cell_row hneP1 ?_ | with_reducible refine cell_row hneG1 ?_ | with_reducible refine cell_row (by omega) ?_ | refine keepc hb20 ?_)))
                clear hK K hS
                have hS := hS'
                clear hS'
                try simp only [Act.put]
                refine wpAnyH_take (i := 20) (oi := ⟨some 7, _, _, _, _, _⟩) (v := ?_) rfl (by kernel_rfl) (by kernel_rfl) (by kernel_rfl) (fun _ _ _ h => h) (Or.inl ⟨by rfl, ?_⟩) hS ?_
                rotate_left
                · (intro w' hSw; obtain ⟨s1, s2, s3, s4⟩ := hSw; go_simp; try with_reducible rfl)
                simp only [Act.put, List.setIfInBounds_toArray, List.set_cons_zero, List.set_cons_succ]
                refine wpAnyH_take (i := 21) (oi := ⟨some 8, _, _, _, _, _⟩) (v := ?_) rfl (by kernel_rfl) (by kernel_rfl) (by kernel_rfl) (fun _ _ _ h => h) (Or.inl ⟨by rfl, ?_⟩) hS ?_
                rotate_left
                · (intro w' hSw; obtain ⟨s1, s2, s3, s4⟩ := hSw; go_simp; try with_reducible rfl)
                simp only [Act.put, List.setIfInBounds_toArray, List.set_cons_zero, List.set_cons_succ]
                refine wpAnyH_done (by kernel_rfl) ?_ _
                show KK _ _
                refine hKK _ _ (Met.intro (hJJ _ _ ?_))
                (repeat apply Exists.intro)
                refine ⟨?_, rfl⟩
                refine ⟨wr.heap.size, wr.heap.size + 1, f', c', rfl, rfl, rfl, rfl, (by omega), (by omega), (by first | omega | (simp; done)), ?_, ?_, ?_, ?_⟩
                · show Below _ _ _
                  repeat' (first | with_reducible exact Below.refl wr.heap.size wr | (with_reducible refine Below.rowB ?_ (by first | omega | (simp; done) | (simp; omega))) | with_reducible refine Below.setCell ?_ (by first | omega | (simp; done) | (simp; omega)) _ | with_reducible refine bel_alloc ?_ _ | with_reducible refine Below.drew ?_ | with_reducible refine bel_trans ?_ hb20)
                · show BoxAt _ _ _ _
                  repeat' (first | (with_reducible refine BoxAt.newAt _ _ _ _ (by (simp; done))) | with_reducible refine BoxAt.putAny #[.int .i64 0, .int .i64 0, .bool false, .bool false, .bool false, .bool false, .bool false, .int .i64 0, .int .i64 0] ?_ rfl | (with_reducible refine BoxAt.row ?_ (by first | with_reducible assumption | omega | (simp; done) | (simp; omega))) | with_reducible refine BoxAt.alloc ?_ _ | with_reducible refine BoxAt.drew ?_ | with_reducible refine BoxAt.below ?_ hb20)
                · show BoxAt _ _ _ _
                  repeat' (first | (with_reducible refine BoxAt.newAt _ _ _ _ (by (simp; done))) | with_reducible refine BoxAt.putAny #[.int .i64 0, .int .i64 0, .int .i64 0, .bool false, .int .i64 0] ?_ rfl | (with_reducible refine BoxAt.row ?_ (by first | with_reducible assumption | omega | (simp; done) | (simp; omega))) | with_reducible refine BoxAt.alloc ?_ _ | with_reducible refine BoxAt.drew ?_ | with_reducible refine BoxAt.below ?_ hb20)
                · show OwnI _ _ _ _
                  have hO21 := OwnI.mono hO20 (base' := wr.heap.size + 1 + 1) (by first | omega | (simp; done))
                  refine OwnI.mono (base := wr.heap.size + 1 + 1) ?_ (by omega)
                  repeat' (first | with_reducible exact hO21 | (with_reducible refine OwnI.rowHi hO21 ?_ (by omega)) | (with_reducible refine OwnI.row ?_ (by first | omega | (simp; done) | (simp; omega))) | with_reducible refine OwnI.other ?_ _ _ (by first | with_reducible assumption | (simp; done) | (simp; omega)) | with_reducible refine OwnI.alloc ?_ _ | with_reducible refine OwnI.drew ?_)
              refine AllReadyH.cons (o := ⟨some 6, _, _, _, _, _⟩) rfl (fun K hK => ?_) AllReadyH.nil
              go_simp
              refine hK.out _ _ ?_ (fun hS' => ?_)
              · (refine ⟨?_, ?_, ?_, ?_⟩ <;> (repeat (first | with_reducible exact hS.1 | with_reducible exact hS.2.1 | with_reducible exact hS.2.2.1 | with_reducible exact hS.2.2.2 | with_reducible assumption | with_reducible refine cell_keep ?_ _ | with_reducible refine cell_drew ?_ | with_reducible refine cell_row hneP ?_ | with_reducible refine cell_row hneG ?_ | with_reducible refine cell_row hneP1 ?_ | with_reducible refine cell_row hneG1 ?_ | with_reducible refine cell_row (by omega) ?_ | refine keepc hb20 ?_)))
              clear hK K hS
              have hS := hS'
              clear hS'
              try simp only [Act.put, List.setIfInBounds_toArray, List.set_cons_zero, List.set_cons_succ]
              refine wpAnyH_ready (rs := [10, 16]) (by kernel_rfl) (by simp) ?_
              refine AllReadyH.cons (o := ⟨some 41, _, _, _, _, _⟩) rfl (fun K hK => ?_) ?_
              · go_simp
                refine (HT.out _ (HXc.out.below (by go_grown))).mono ?_
                rintro e w20 ⟨f', c', rfl, hO20, hb20⟩
                have hsz20 := hb20.size
                simp at hsz20
                refine hK.out _ _ ?_ (fun hS' => ?_)
                · (refine ⟨?_, ?_, ?_, ?_⟩ <;> (repeat (first | with_reducible exact hS.1 | with_reducible exact hS.2.1 | with_reducible exact hS.2.2.1 | with_reducible exact hS.2.2.2 | with_reducible assumption | with_reducible refine cell_keep ?_ _ | with_reducible refine cell_drew ?_ | with_reducible refine cell_row hneP ?_ | with_reducible refine cell_row hneG ?_ | with_reducible refine cell_row hneP1 ?_ | with_reducible refine cell_row hneG1 ?_ | with_reducible refine cell_row (by omega) ?_ | refine keepc hb20 ?_)))
                clear hK K hS
                have hS := hS'
                clear hS'
                try simp only [Act.put, List.setIfInBounds_toArray, List.set_cons_zero, List.set_cons_succ]
                refine wpAnyH_take (i := 11) (oi := ⟨some 30, _, _, _, _, _⟩) (v := ?_) rfl (by kernel_rfl) (by kernel_rfl) (by kernel_rfl) (fun _ _ _ h => h) (Or.inl ⟨by rfl, ?_⟩) hS ?_
                rotate_left
                · (intro w' hSw; obtain ⟨s1, s2, s3, s4⟩ := hSw; go_simp; try with_reducible rfl)
                simp only [Act.put, List.setIfInBounds_toArray, List.set_cons_zero, List.set_cons_succ]
                refine wpAnyH_take (i := 12) (oi := ⟨some 42, _, _, _, _, _⟩) (v := ?_) rfl (by kernel_rfl) (by kernel_rfl) (by kernel_rfl) (fun _ _ _ h => h) (Or.inl ⟨by rfl, ?_⟩) hS ?_
                rotate_left
                · (intro w' hSw; obtain ⟨s1, s2, s3, s4⟩ := hSw; go_simp; try with_reducible rfl)
                simp only [Act.put, List.setIfInBounds_toArray, List.set_cons_zero, List.set_cons_succ]
                refine wpAnyH_take (i := 13) (oi := ⟨some 43, _, _, _, _, _⟩) (v := ?_) rfl (by kernel_rfl) (by kernel_rfl) (by kernel_rfl) (fun _ _ _ h => h) (Or.inl ⟨by rfl, ?_⟩) hS ?_
                rotate_left
                · (intro w' hSw; obtain ⟨s1, s2, s3, s4⟩ := hSw; go_simp; try with_reducible rfl)
                simp only [Act.put, List.setIfInBounds_toArray, List.set_cons_zero, List.set_cons_succ]
                refine wpAnyH_take (i := 14) (oi := ⟨some 44, _, _, _, _, _⟩) (v := ?_) rfl (by kernel_rfl) (by kernel_rfl) (by kernel_rfl) (fun _ _ _ h => h) (Or.inl ⟨by rfl, ?_⟩) hS ?_
                rotate_left
                · (intro w' hSw; obtain ⟨s1, s2, s3, s4⟩ := hSw; go_simp; try with_reducible rfl)
                simp only [Act.put, List.setIfInBounds_toArray, List.set_cons_zero, List.set_cons_succ]
                refine wpAnyH_take (i := 15) (oi := ⟨some 45, _, _, _, _, _⟩) (v := ?_) rfl (by kernel_rfl) (by kernel_rfl) (by kernel_rfl) (fun _ _ _ h => h) (Or.inl ⟨by rfl, ?_⟩) hS ?_
                rotate_left
                · (intro w' hSw; obtain ⟨s1, s2, s3, s4⟩ := hSw; go_simp; try with_reducible rfl)
                simp only [Act.put, List.setIfInBounds_toArray, List.set_cons_zero, List.set_cons_succ]
                refine wpAnyH_ready (rs := [16]) (by kernel_rfl) (by simp) ?_
                refine AllReadyH.cons (o := ⟨some 5, _, _, _, _, _⟩) rfl (fun K hK => ?_) AllReadyH.nil
                go_simp
                refine hK.out _ _ ?_ (fun hS' => ?_)
                · (refine ⟨?_, ?_, ?_, ?_⟩ <;> (repeat (first | with_reducible exact hS.1 | with_reducible exact hS.2.1 | with_reducible exact hS.2.2.1 | with_reducible exact hS.2.2.2 | with_reducible assumption | with_reducible refine cell_keep ?_ _ | with_reducible refine cell_drew ?_ | with_reducible refine cell_row hneP ?_ | with_reducible refine cell_row hneG ?_ | with_reducible refine cell_row hneP1 ?_ | with_reducible refine cell_row hneG1 ?_ | with_reducible refine cell_row (by omega) ?_ | refine keepc hb20 ?_)))
                clear hK K hS
                have hS := hS'
                clear hS'
                try simp only [Act.put, List.setIfInBounds_toArray, List.set_cons_zero, List.set_cons_succ]
                refine wpAnyH_ready (rs := [18]) (by kernel_rfl) (by simp) ?_
                refine AllReadyH.cons (o := ⟨none, _, _, _, _, _⟩) rfl (fun K hK => ?_) AllReadyH.nil
                refine step_storeB rfl 45 _ _ rfl _ _ #[.int .i64 0, .int .i64 0, .bool false, .bool false, .bool false, .bool false, .bool false, .int .i64 0, .int .i64 0] 45 rfl rfl (by kernel_rfl) rfl (by simp [Value.oneCell']) (by repeat' (first | (with_reducible refine BoxAt.newAt _ _ _ _ (by (simp; done))) | with_reducible refine BoxAt.putAny #[] ?_ rfl | (with_reducible refine BoxAt.row ?_ (by first | with_reducible assumption | omega | (simp; done) | (simp; omega))) | with_reducible refine BoxAt.alloc ?_ _ | with_reducible refine BoxAt.drew ?_ | with_reducible refine BoxAt.below ?_ hb20)) ?_
                refine hK.out _ _ ?_ (fun hS' => ?_)
                · (refine ⟨?_, ?_, ?_, ?_⟩ <;> (repeat (first | with_reducible exact hS.1 | with_reducible exact hS.2.1 | with_reducible exact hS.2.2.1 | with_reducible exact hS.2.2.2 | with_reducible assumption | with_reducible refine cell_keep ?_ _ | with_reducible refine cell_drew ?_ | with_reducible refine cell_row hneP ?_ | with_reducible refine cell_row hneG ?_ | with_reducible refine cell_row hneP1 ?_ | with_reducible refine cell_row hneG1 ?_ | with_reducible refine cell_row (by omega) ?_ | refine keepc hb20 ?_)))
                clear hK K hS
                have hS := hS'
                clear hS'
                try simp only [Act.put]
                refine wpAnyH_ready (rs := [19]) (by kernel_rfl) (by simp) ?_
                refine AllReadyH.cons (o := ⟨none, _, _, _, _, _⟩) rfl (fun K hK => ?_) AllReadyH.nil
                refine step_storeB rfl 47 _ _ rfl _ _ #[.int .i64 0, .int .i64 0, .int .i64 0, .bool false, .int .i64 0] 47 rfl rfl (by kernel_rfl) rfl (by simp [Value.oneCell']) (by repeat' (first | (with_reducible refine BoxAt.newAt _ _ _ _ (by (simp; done))) | with_reducible refine BoxAt.putAny #[] ?_ rfl | (with_reducible refine BoxAt.row ?_ (by first | with_reducible assumption | omega | (simp; done) | (simp; omega))) | with_reducible refine BoxAt.alloc ?_ _ | with_reducible refine BoxAt.drew ?_ | with_reducible refine BoxAt.below ?_ hb20)) ?_
                refine hK.out _ _ ?_ (fun hS' => ?_)
                · (refine ⟨?_, ?_, ?_, ?_⟩ <;> (repeat (first | with_reducible exact hS.1 | with_reducible exact hS.2.1 | with_reducible exact hS.2.2.1 | with_reducible exact hS.2.2.2 | with_reducible assumption | with_reducible refine cell_keep ?_ _ | with_reducible refine cell_drew ?_ | with_reducible refine cell_row hneP ?_ | with_reducible refine cell_row hneG ?_ | with_reducible refine cell_row hneP1 ?_ | with_reducible refine cell_row hneG1 ?_ | with_reducible refine cell_row (by omega) ?_ | refine keepc hb20 ?_)))
                clear hK K hS
                have hS := hS'
                clear hS'
                try simp only [Act.put]
                refine wpAnyH_take (i := 20) (oi := ⟨some 7, _, _, _, _, _⟩) (v := ?_) rfl (by kernel_rfl) (by kernel_rfl) (by kernel_rfl) (fun _ _ _ h => h) (Or.inl ⟨by rfl, ?_⟩) hS ?_
                rotate_left
                · (intro w' hSw; obtain ⟨s1, s2, s3, s4⟩ := hSw; go_simp; try with_reducible rfl)
                simp only [Act.put, List.setIfInBounds_toArray, List.set_cons_zero, List.set_cons_succ]
                refine wpAnyH_take (i := 21) (oi := ⟨some 8, _, _, _, _, _⟩) (v := ?_) rfl (by kernel_rfl) (by kernel_rfl) (by kernel_rfl) (fun _ _ _ h => h) (Or.inl ⟨by rfl, ?_⟩) hS ?_
                rotate_left
                · (intro w' hSw; obtain ⟨s1, s2, s3, s4⟩ := hSw; go_simp; try with_reducible rfl)
                simp only [Act.put, List.setIfInBounds_toArray, List.set_cons_zero, List.set_cons_succ]
                refine wpAnyH_done (by kernel_rfl) ?_ _
                show KK _ _
                refine hKK _ _ (Met.intro (hJJ _ _ ?_))
                (repeat apply Exists.intro)
                refine ⟨?_, rfl⟩
                refine ⟨w20.heap.size, wr.heap.size, f', c', rfl, rfl, rfl, rfl, (by omega), (by omega), (by first | omega | (simp; done)), ?_, ?_, ?_, ?_⟩
                · show Below _ _ _
                  repeat' (first | with_reducible exact Below.refl wr.heap.size wr | (with_reducible refine Below.rowB ?_ (by first | omega | (simp; done) | (simp; omega))) | with_reducible refine Below.setCell ?_ (by first | omega | (simp; done) | (simp; omega)) _ | with_reducible refine bel_alloc ?_ _ | with_reducible refine Below.drew ?_ | with_reducible refine bel_trans ?_ hb20)
                · show BoxAt _ _ _ _
                  repeat' (first | (with_reducible refine BoxAt.newAt _ _ _ _ (by (simp; done))) | with_reducible refine BoxAt.putAny #[.int .i64 0, .int .i64 0, .bool false, .bool false, .bool false, .bool false, .bool false, .int .i64 0, .int .i64 0] ?_ rfl | (with_reducible refine BoxAt.row ?_ (by first | with_reducible assumption | omega | (simp; done) | (simp; omega))) | with_reducible refine BoxAt.alloc ?_ _ | with_reducible refine BoxAt.drew ?_ | with_reducible refine BoxAt.below ?_ hb20)
                · show BoxAt _ _ _ _
                  repeat' (first | (with_reducible refine BoxAt.newAt _ _ _ _ (by (simp; done))) | with_reducible refine BoxAt.putAny #[.int .i64 0, .int .i64 0, .int .i64 0, .bool false, .int .i64 0] ?_ rfl | (with_reducible refine BoxAt.row ?_ (by first | with_reducible assumption | omega | (simp; done) | (simp; omega))) | with_reducible refine BoxAt.alloc ?_ _ | with_reducible refine BoxAt.drew ?_ | with_reducible refine BoxAt.below ?_ hb20)
                · show OwnI _ _ _ _
                  have hO21 := OwnI.mono hO20 (base' := wr.heap.size + 1) (by first | omega | (simp; done))
                  refine OwnI.mono (base := wr.heap.size + 1) ?_ (by omega)
                  repeat' (first | with_reducible exact hO21 | (with_reducible refine OwnI.rowHi hO21 ?_ (by omega)) | (with_reducible refine OwnI.row ?_ (by first | omega | (simp; done) | (simp; omega))) | with_reducible refine OwnI.other ?_ _ _ (by first | with_reducible assumption | (simp; done) | (simp; omega)) | with_reducible refine OwnI.alloc ?_ _ | with_reducible refine OwnI.drew ?_)
              refine AllReadyH.cons (o := ⟨some 5, _, _, _, _, _⟩) rfl (fun K hK => ?_) AllReadyH.nil
              go_simp
              refine hK.out _ _ ?_ (fun hS' => ?_)
              · (refine ⟨?_, ?_, ?_, ?_⟩ <;> (repeat (first | with_reducible exact hS.1 | with_reducible exact hS.2.1 | with_reducible exact hS.2.2.1 | with_reducible exact hS.2.2.2 | with_reducible assumption | with_reducible refine cell_keep ?_ _ | with_reducible refine cell_drew ?_ | with_reducible refine cell_row hneP ?_ | with_reducible refine cell_row hneG ?_ | with_reducible refine cell_row hneP1 ?_ | with_reducible refine cell_row hneG1 ?_ | with_reducible refine cell_row (by omega) ?_ | refine keepc hb20 ?_)))
              clear hK K hS
              have hS := hS'
              clear hS'
              try simp only [Act.put, List.setIfInBounds_toArray, List.set_cons_zero, List.set_cons_succ]
              refine wpAnyH_ready (rs := [10]) (by kernel_rfl) (by simp) ?_
              refine AllReadyH.cons (o := ⟨some 41, _, _, _, _, _⟩) rfl (fun K hK => ?_) AllReadyH.nil
              go_simp
              refine (HT.out _ (HXc.out.below (by go_grown))).mono ?_
              rintro e w20 ⟨f', c', rfl, hO20, hb20⟩
              have hsz20 := hb20.size
              simp at hsz20
              refine hK.out _ _ ?_ (fun hS' => ?_)
              · (refine ⟨?_, ?_, ?_, ?_⟩ <;> (repeat (first | with_reducible exact hS.1 | with_reducible exact hS.2.1 | with_reducible exact hS.2.2.1 | with_reducible exact hS.2.2.2 | with_reducible assumption | with_reducible refine cell_keep ?_ _ | with_reducible refine cell_drew ?_ | with_reducible refine cell_row hneP ?_ | with_reducible refine cell_row hneG ?_ | with_reducible refine cell_row hneP1 ?_ | with_reducible refine cell_row hneG1 ?_ | with_reducible refine cell_row (by omega) ?_ | refine keepc hb20 ?_)))
              clear hK K hS
              have hS := hS'
              clear hS'
              try simp only [Act.put, List.setIfInBounds_toArray, List.set_cons_zero, List.set_cons_succ]
              refine wpAnyH_take (i := 11) (oi := ⟨some 30, _, _, _, _, _⟩) (v := ?_) rfl (by kernel_rfl) (by kernel_rfl) (by kernel_rfl) (fun _ _ _ h => h) (Or.inl ⟨by rfl, ?_⟩) hS ?_
              rotate_left
              · (intro w' hSw; obtain ⟨s1, s2, s3, s4⟩ := hSw; go_simp; try with_reducible rfl)
              simp only [Act.put, List.setIfInBounds_toArray, List.set_cons_zero, List.set_cons_succ]
              refine wpAnyH_take (i := 12) (oi := ⟨some 42, _, _, _, _, _⟩) (v := ?_) rfl (by kernel_rfl) (by kernel_rfl) (by kernel_rfl) (fun _ _ _ h => h) (Or.inl ⟨by rfl, ?_⟩) hS ?_
              rotate_left
              · (intro w' hSw; obtain ⟨s1, s2, s3, s4⟩ := hSw; go_simp; try with_reducible rfl)
              simp only [Act.put, List.setIfInBounds_toArray, List.set_cons_zero, List.set_cons_succ]
              refine wpAnyH_take (i := 13) (oi := ⟨some 43, _, _, _, _, _⟩) (v := ?_) rfl (by kernel_rfl) (by kernel_rfl) (by kernel_rfl) (fun _ _ _ h => h) (Or.inl ⟨by rfl, ?_⟩) hS ?_
              rotate_left
              · (intro w' hSw; obtain ⟨s1, s2, s3, s4⟩ := hSw; go_simp; try with_reducible rfl)
              simp only [Act.put, List.setIfInBounds_toArray, List.set_cons_zero, List.set_cons_succ]
              refine wpAnyH_take (i := 14) (oi := ⟨some 44, _, _, _, _, _⟩) (v := ?_) rfl (by kernel_rfl) (by kernel_rfl) (by kernel_rfl) (fun _ _ _ h => h) (Or.inl ⟨by rfl, ?_⟩) hS ?_
              rotate_left
              · (intro w' hSw; obtain ⟨s1, s2, s3, s4⟩ := hSw; go_simp; try with_reducible rfl)
              simp only [Act.put, List.setIfInBounds_toArray, List.set_cons_zero, List.set_cons_succ]
              refine wpAnyH_take (i := 15) (oi := ⟨some 45, _, _, _, _, _⟩) (v := ?_) rfl (by kernel_rfl) (by kernel_rfl) (by kernel_rfl) (fun _ _ _ h => h) (Or.inl ⟨by rfl, ?_⟩) hS ?_
              rotate_left
              · (intro w' hSw; obtain ⟨s1, s2, s3, s4⟩ := hSw; go_simp; try with_reducible rfl)
              simp only [Act.put, List.setIfInBounds_toArray, List.set_cons_zero, List.set_cons_succ]
              refine wpAnyH_ready (rs := [18]) (by kernel_rfl) (by simp) ?_
              refine AllReadyH.cons (o := ⟨none, _, _, _, _, _⟩) rfl (fun K hK => ?_) AllReadyH.nil
              refine step_storeB rfl 45 _ _ rfl _ _ #[.int .i64 0, .int .i64 0, .bool false, .bool false, .bool false, .bool false, .bool false, .int .i64 0, .int .i64 0] 45 rfl rfl (by kernel_rfl) rfl (by simp [Value.oneCell']) (by repeat' (first | (with_reducible refine BoxAt.newAt _ _ _ _ (by (simp; done))) | with_reducible refine BoxAt.putAny #[] ?_ rfl | (with_reducible refine BoxAt.row ?_ (by first | with_reducible assumption | omega | (simp; done) | (simp; omega))) | with_reducible refine BoxAt.alloc ?_ _ | with_reducible refine BoxAt.drew ?_ | with_reducible refine BoxAt.below ?_ hb20)) ?_
              refine hK.out _ _ ?_ (fun hS' => ?_)
              · (refine ⟨?_, ?_, ?_, ?_⟩ <;> (repeat (first | with_reducible exact hS.1 | with_reducible exact hS.2.1 | with_reducible exact hS.2.2.1 | with_reducible exact hS.2.2.2 | with_reducible assumption | with_reducible refine cell_keep ?_ _ | with_reducible refine cell_drew ?_ | with_reducible refine cell_row hneP ?_ | with_reducible refine cell_row hneG ?_ | with_reducible refine cell_row hneP1 ?_ | with_reducible refine cell_row hneG1 ?_ | with_reducible refine cell_row (by omega) ?_ | refine keepc hb20 ?_)))
              clear hK K hS
              have hS := hS'
              clear hS'
              try simp only [Act.put]
              refine wpAnyH_ready (rs := [19]) (by kernel_rfl) (by simp) ?_
              refine AllReadyH.cons (o := ⟨none, _, _, _, _, _⟩) rfl (fun K hK => ?_) AllReadyH.nil
              refine step_storeB rfl 47 _ _ rfl _ _ #[.int .i64 0, .int .i64 0, .int .i64 0, .bool false, .int .i64 0] 47 rfl rfl (by kernel_rfl) rfl (by simp [Value.oneCell']) (by repeat' (first | (with_reducible refine BoxAt.newAt _ _ _ _ (by (simp; done))) | with_reducible refine BoxAt.putAny #[] ?_ rfl | (with_reducible refine BoxAt.row ?_ (by first | with_reducible assumption | omega | (simp; done) | (simp; omega))) | with_reducible refine BoxAt.alloc ?_ _ | with_reducible refine BoxAt.drew ?_ | with_reducible refine BoxAt.below ?_ hb20)) ?_
              refine hK.out _ _ ?_ (fun hS' => ?_)
              · (refine ⟨?_, ?_, ?_, ?_⟩ <;> (repeat (first | with_reducible exact hS.1 | with_reducible exact hS.2.1 | with_reducible exact hS.2.2.1 | with_reducible exact hS.2.2.2 | with_reducible assumption | with_reducible refine cell_keep ?_ _ | with_reducible refine cell_drew ?_ | with_reducible refine cell_row hneP ?_ | with_reducible refine cell_row hneG ?_ | with_reducible refine cell_row hneP1 ?_ | with_reducible refine cell_row hneG1 ?_ | with_reducible refine cell_row (by omega) ?_ | refine keepc hb20 ?_)))
              clear hK K hS
              have hS := hS'
              clear hS'
              try simp only [Act.put]
              refine wpAnyH_take (i := 20) (oi := ⟨some 7, _, _, _, _, _⟩) (v := ?_) rfl (by kernel_rfl) (by kernel_rfl) (by kernel_rfl) (fun _ _ _ h => h) (Or.inl ⟨by rfl, ?_⟩) hS ?_
              rotate_left
              · (intro w' hSw; obtain ⟨s1, s2, s3, s4⟩ := hSw; go_simp; try with_reducible rfl)
              simp only [Act.put, List.setIfInBounds_toArray, List.set_cons_zero, List.set_cons_succ]
              refine wpAnyH_take (i := 21) (oi := ⟨some 8, _, _, _, _, _⟩) (v := ?_) rfl (by kernel_rfl) (by kernel_rfl) (by kernel_rfl) (fun _ _ _ h => h) (Or.inl ⟨by rfl, ?_⟩) hS ?_
              rotate_left
              · (intro w' hSw; obtain ⟨s1, s2, s3, s4⟩ := hSw; go_simp; try with_reducible rfl)
              simp only [Act.put, List.setIfInBounds_toArray, List.set_cons_zero, List.set_cons_succ]
              refine wpAnyH_done (by kernel_rfl) ?_ _
              show KK _ _
              refine hKK _ _ (Met.intro (hJJ _ _ ?_))
              (repeat apply Exists.intro)
              refine ⟨?_, rfl⟩
              refine ⟨wr.heap.size + 1, wr.heap.size, f', c', rfl, rfl, rfl, rfl, (by omega), (by omega), (by first | omega | (simp; done)), ?_, ?_, ?_, ?_⟩
              · show Below _ _ _
                repeat' (first | with_reducible exact Below.refl wr.heap.size wr | (with_reducible refine Below.rowB ?_ (by first | omega | (simp; done) | (simp; omega))) | with_reducible refine Below.setCell ?_ (by first | omega | (simp; done) | (simp; omega)) _ | with_reducible refine bel_alloc ?_ _ | with_reducible refine Below.drew ?_ | with_reducible refine bel_trans ?_ hb20)
              · show BoxAt _ _ _ _
                repeat' (first | (with_reducible refine BoxAt.newAt _ _ _ _ (by (simp; done))) | with_reducible refine BoxAt.putAny #[.int .i64 0, .int .i64 0, .bool false, .bool false, .bool false, .bool false, .bool false, .int .i64 0, .int .i64 0] ?_ rfl | (with_reducible refine BoxAt.row ?_ (by first | with_reducible assumption | omega | (simp; done) | (simp; omega))) | with_reducible refine BoxAt.alloc ?_ _ | with_reducible refine BoxAt.drew ?_ | with_reducible refine BoxAt.below ?_ hb20)
              · show BoxAt _ _ _ _
                repeat' (first | (with_reducible refine BoxAt.newAt _ _ _ _ (by (simp; done))) | with_reducible refine BoxAt.putAny #[.int .i64 0, .int .i64 0, .int .i64 0, .bool false, .int .i64 0] ?_ rfl | (with_reducible refine BoxAt.row ?_ (by first | with_reducible assumption | omega | (simp; done) | (simp; omega))) | with_reducible refine BoxAt.alloc ?_ _ | with_reducible refine BoxAt.drew ?_ | with_reducible refine BoxAt.below ?_ hb20)
              · show OwnI _ _ _ _
                have hO21 := OwnI.mono hO20 (base' := wr.heap.size + 1 + 1) (by first | omega | (simp; done))
                refine OwnI.mono (base := wr.heap.size + 1 + 1) ?_ (by omega)
                repeat' (first | with_reducible exact hO21 | (with_reducible refine OwnI.rowHi hO21 ?_ (by omega)) | (with_reducible refine OwnI.row ?_ (by first | omega | (simp; done) | (simp; omega))) | with_reducible refine OwnI.other ?_ _ _ (by first | with_reducible assumption | (simp; done) | (simp; omega)) | with_reducible refine OwnI.alloc ?_ _ | with_reducible refine OwnI.drew ?_)
            case rest =>
              obtain ⟨bH, bF, f', c', rfl, rfl, rfl, rfl, hbH, hbF, hHF, HBx, H20, F20, O20⟩ := hcut
              obtain ⟨w20, rfl⟩ : ∃ w20 : World, w20 = wc := ⟨_, rfl⟩
              have hpk20 := Lib.hid (keepc HBx.out hpk2.out)
              have HX20 := Lib.hid (HXc.out.below HBx.out)
              have P20 := Lib.hid (X2.out.below HBx.out)
              have B20 := Lib.hid (bel_trans HB.out HBx.out)
              have hs20 : wr.heap.size ≤ w20.heap.size := HBx.out.size
              have hlH := H20.out.lt
              have hlF := F20.out.lt
              have O20k := O20
              clear HBx HB X2 hpk2 HXc Pc0 Pc1 Pc2 hpk3 HT
              rcases HC.out with hm | ⟨hm, rfl⟩ | ⟨hm, h0, h1⟩ | ⟨hm, h0, h1, h2⟩ | ⟨hm, h0, h1, h2⟩
              · rw [hm] at HM
                clear hm
                have HPk := Lib.hid ((P20.out.alloc (.cells #[.int .i64 0, .int .i64 0, .bool false, .bool false, .bool false, .bool false, .bool false, .int .i64 0, .int .i64 0] 45)).alloc (.cells #[.int .i64 0, .int .i64 0, .int .i64 0, .bool false, .int .i64 0] 47))
                have pc0 := HPk.out.get 0 (.slice f l c) rfl
                go_wp2_with fail
                refine (HM.out _).mono ?_
                rintro e w21 ⟨rfl, hb21⟩
                have P22 := Lib.hid (((P20.out.alloc (.cells #[.int .i64 0, .int .i64 0, .bool false, .bool false, .bool false, .bool false, .bool false, .int .i64 0, .int .i64 0] 45)).alloc (.cells #[.int .i64 0, .int .i64 0, .int .i64 0, .bool false, .int .i64 0] 47)).below hb21)
                have H22 := Lib.hid (((H20.out.alloc (.cells #[.int .i64 0, .int .i64 0, .bool false, .bool false, .bool false, .bool false, .bool false, .int .i64 0, .int .i64 0] 45)).alloc (.cells #[.int .i64 0, .int .i64 0, .int .i64 0, .bool false, .int .i64 0] 47)).below hb21)
                have F22 := Lib.hid (((F20.out.alloc (.cells #[.int .i64 0, .int .i64 0, .bool false, .bool false, .bool false, .bool false, .bool false, .int .i64 0, .int .i64 0] 45)).alloc (.cells #[.int .i64 0, .int .i64 0, .int .i64 0, .bool false, .int .i64 0] 47)).below hb21)
                have X22 := Lib.hid (((BoxAt.newAt _ #[.int .i64 0, .int .i64 0, .bool false, .bool false, .bool false, .bool false, .bool false, .int .i64 0, .int .i64 0] 45 (w20.heap.size) (by first | rfl | (simp; done) | (simp; omega))).alloc (.cells #[.int .i64 0, .int .i64 0, .int .i64 0, .bool false, .int .i64 0] 47)).below hb21)
                have Y22 := Lib.hid ((BoxAt.newAt _ #[.int .i64 0, .int .i64 0, .int .i64 0, .bool false, .int .i64 0] 47 (w20.heap.size + 1) (by first | rfl | (simp; done) | (simp; omega))).below hb21)
                have O22 := Lib.hid (((O20.out.alloc (.cells #[.int .i64 0, .int .i64 0, .bool false, .bool false, .bool false, .bool false, .bool false, .int .i64 0, .int .i64 0] 45)).alloc (.cells #[.int .i64 0, .int .i64 0, .int .i64 0, .bool false, .int .i64 0] 47)).below hb21)
                have B22 := Lib.hid (bel_trans (bel_alloc (bel_alloc B20.out (.cells #[.int .i64 0, .int .i64 0, .bool false, .bool false, .bool false, .bool false, .bool false, .int .i64 0, .int .i64 0] 45)) (.cells #[.int .i64 0, .int .i64 0, .int .i64 0, .bool false, .int .i64 0] 47)) hb21)
                clear pc0
                clear P20 H20 F20 O20 B20 hb21
                clear HPk
                have Hc0 := H22.out.get 0 (.int .i64 0) rfl
                have Hc1 := H22.out.get 1 (.int .i64 0) rfl
                have Hc2 := H22.out.get 2 (.bool false) rfl
                have Hc3 := H22.out.get 3 (.bool false) rfl
                have Hc4 := H22.out.get 4 (.bool false) rfl
                have Hc5 := H22.out.get 5 (.bool false) rfl
                have Hc6 := H22.out.get 6 (.bool false) rfl
                have Hc7 := H22.out.get 7 (.int .i64 0) rfl
                have Hc8 := H22.out.get 8 (.int .i64 0) rfl
                have Xc0 := X22.out.get 0 (.int .i64 0) rfl
                have Xc1 := X22.out.get 1 (.int .i64 0) rfl
                have Xc2 := X22.out.get 2 (.bool false) rfl
                have Xc3 := X22.out.get 3 (.bool false) rfl
                have Xc4 := X22.out.get 4 (.bool false) rfl
                have Xc5 := X22.out.get 5 (.bool false) rfl
                have Xc6 := X22.out.get 6 (.bool false) rfl
                have Xc7 := X22.out.get 7 (.int .i64 0) rfl
                have Xc8 := X22.out.get 8 (.int .i64 0) rfl
                have Fc0 := F22.out.get 0 (.int .i64 0) rfl
                have Fc1 := F22.out.get 1 (.int .i64 0) rfl
                have Fc2 := F22.out.get 2 (.int .i64 0) rfl
                have Fc3 := F22.out.get 3 (.bool false) rfl
                have Fc4 := F22.out.get 4 (.int .i64 0) rfl
                have Yc0 := Y22.out.get 0 (.int .i64 0) rfl
                have Yc1 := Y22.out.get 1 (.int .i64 0) rfl
                have Yc2 := Y22.out.get 2 (.int .i64 0) rfl
                have Yc3 := Y22.out.get 3 (.bool false) rfl
                have Yc4 := Y22.out.get 4 (.int .i64 0) rfl
                go_wp2_with fail
                refine (lnum5_any _ _).mono ?_
                rintro e w23 ⟨rfl, rfl⟩
                go_wp2_with fail
                refine (eqI_any _ _ _ _ _ _ [] _ (by simp; try omega) (by simp) (by simp) O22.out.ints.2 (CellsAt.empty _ _ _)).mono ?_
                rintro e w30 ⟨rfl, m30, rfl⟩
                clear Hc0 Hc1 Hc2 Hc3 Hc4 Hc5 Hc6 Hc7 Hc8 Xc0 Xc1 Xc2 Xc3 Xc4 Xc5 Xc6 Xc7 Xc8 Fc0 Fc1 Fc2 Fc3 Fc4 Yc0 Yc1 Yc2 Yc3 Yc4
                go_wp2_with fail
                refine (spoilI_any wr.heap.size _ _ _ [] _ (by simp; try omega) (by have := B22.out.size; have := H22.out.lt; simp; omega) (O22.out.drewN m30)).mono ?_
                rintro e w31 ⟨rfl, hb31⟩
                go_wp2
                go_roundw
                case rel => exact ⟨st + 1, by omega, by omega, rfl, (below_drewN B22.out m30).trans (hb31.mono hws)⟩
                case measure => (simp [intOf] <;> omega)
              · have hst0 : decide ((0 : Int) < 0) = false := rfl
                rw [hm] at HM
                clear hm
                have HPk := Lib.hid ((P20.out.alloc (.cells #[.int .i64 0, .int .i64 0, .bool false, .bool false, .bool false, .bool false, .bool false, .int .i64 0, .int .i64 0] 45)).alloc (.cells #[.int .i64 0, .int .i64 0, .int .i64 0, .bool false, .int .i64 0] 47))
                have pc0 := HPk.out.get 0 (.slice f l c) rfl
                go_wp2_with fail
                refine (HM.out _).mono ?_
                rintro e w21 ⟨rfl, hb21⟩
                have P22 := Lib.hid (((P20.out.alloc (.cells #[.int .i64 0, .int .i64 0, .bool false, .bool false, .bool false, .bool false, .bool false, .int .i64 0, .int .i64 0] 45)).alloc (.cells #[.int .i64 0, .int .i64 0, .int .i64 0, .bool false, .int .i64 0] 47)).below hb21)
                have H22 := Lib.hid (((H20.out.alloc (.cells #[.int .i64 0, .int .i64 0, .bool false, .bool false, .bool false, .bool false, .bool false, .int .i64 0, .int .i64 0] 45)).alloc (.cells #[.int .i64 0, .int .i64 0, .int .i64 0, .bool false, .int .i64 0] 47)).below hb21)
                have F22 := Lib.hid (((F20.out.alloc (.cells #[.int .i64 0, .int .i64 0, .bool false, .bool false, .bool false, .bool false, .bool false, .int .i64 0, .int .i64 0] 45)).alloc (.cells #[.int .i64 0, .int .i64 0, .int .i64 0, .bool false, .int .i64 0] 47)).below hb21)
                have X22 := Lib.hid (((BoxAt.newAt _ #[.int .i64 0, .int .i64 0, .bool false, .bool false, .bool false, .bool false, .bool false, .int .i64 0, .int .i64 0] 45 (w20.heap.size) (by first | rfl | (simp; done) | (simp; omega))).alloc (.cells #[.int .i64 0, .int .i64 0, .int .i64 0, .bool false, .int .i64 0] 47)).below hb21)
                have Y22 := Lib.hid ((BoxAt.newAt _ #[.int .i64 0, .int .i64 0, .int .i64 0, .bool false, .int .i64 0] 47 (w20.heap.size + 1) (by first | rfl | (simp; done) | (simp; omega))).below hb21)
                have O22 := Lib.hid (((O20.out.alloc (.cells #[.int .i64 0, .int .i64 0, .bool false, .bool false, .bool false, .bool false, .bool false, .int .i64 0, .int .i64 0] 45)).alloc (.cells #[.int .i64 0, .int .i64 0, .int .i64 0, .bool false, .int .i64 0] 47)).below hb21)
                have B22 := Lib.hid (bel_trans (bel_alloc (bel_alloc B20.out (.cells #[.int .i64 0, .int .i64 0, .bool false, .bool false, .bool false, .bool false, .bool false, .int .i64 0, .int .i64 0] 45)) (.cells #[.int .i64 0, .int .i64 0, .int .i64 0, .bool false, .int .i64 0] 47)) hb21)
                clear pc0
                clear P20 H20 F20 O20 B20 hb21
                clear HPk
                have Hc0 := H22.out.get 0 (.int .i64 0) rfl
                have Hc1 := H22.out.get 1 (.int .i64 0) rfl
                have Hc2 := H22.out.get 2 (.bool false) rfl
                have Hc3 := H22.out.get 3 (.bool false) rfl
                have Hc4 := H22.out.get 4 (.bool false) rfl
                have Hc5 := H22.out.get 5 (.bool false) rfl
                have Hc6 := H22.out.get 6 (.bool false) rfl
                have Hc7 := H22.out.get 7 (.int .i64 0) rfl
                have Hc8 := H22.out.get 8 (.int .i64 0) rfl
                have Xc0 := X22.out.get 0 (.int .i64 0) rfl
                have Xc1 := X22.out.get 1 (.int .i64 0) rfl
                have Xc2 := X22.out.get 2 (.bool false) rfl
                have Xc3 := X22.out.get 3 (.bool false) rfl
                have Xc4 := X22.out.get 4 (.bool false) rfl
                have Xc5 := X22.out.get 5 (.bool false) rfl
                have Xc6 := X22.out.get 6 (.bool false) rfl
                have Xc7 := X22.out.get 7 (.int .i64 0) rfl
                have Xc8 := X22.out.get 8 (.int .i64 0) rfl
                have Fc0 := F22.out.get 0 (.int .i64 0) rfl
                have Fc1 := F22.out.get 1 (.int .i64 0) rfl
                have Fc2 := F22.out.get 2 (.int .i64 0) rfl
                have Fc3 := F22.out.get 3 (.bool false) rfl
                have Fc4 := F22.out.get 4 (.int .i64 0) rfl
                have Yc0 := Y22.out.get 0 (.int .i64 0) rfl
                have Yc1 := Y22.out.get 1 (.int .i64 0) rfl
                have Yc2 := Y22.out.get 2 (.int .i64 0) rfl
                have Yc3 := Y22.out.get 3 (.bool false) rfl
                have Yc4 := Y22.out.get 4 (.int .i64 0) rfl
                go_wp2_with fail
                refine (lnum5_any _ _).mono ?_
                rintro e w23 ⟨rfl, rfl⟩
                go_wp2_with fail
                refine (eqI_any _ _ _ _ _ _ [] _ (by simp; try omega) (by simp) (by simp) O22.out.ints.2 (CellsAt.empty _ _ _)).mono ?_
                rintro e w30 ⟨rfl, m30, rfl⟩
                clear Hc0 Hc1 Hc2 Hc3 Hc4 Hc5 Hc6 Hc7 Hc8 Xc0 Xc1 Xc2 Xc3 Xc4 Xc5 Xc6 Xc7 Xc8 Fc0 Fc1 Fc2 Fc3 Fc4 Yc0 Yc1 Yc2 Yc3 Yc4
                go_wp2_with fail
                refine (spoilI_any wr.heap.size _ _ _ [] _ (by simp; try omega) (by have := B22.out.size; have := H22.out.lt; simp; omega) (O22.out.drewN m30)).mono ?_
                rintro e w31 ⟨rfl, hb31⟩
                go_wp2
                go_roundw
                case rel => exact ⟨0 + 1, by omega, by omega, rfl, (below_drewN B22.out m30).trans (hb31.mono hws)⟩
                case measure => (simp [intOf] <;> omega)
              · have hst0 : decide (0 < st) = true := decide_eq_true h0
                rw [hm] at HM
                rw [h1] at HPF
                clear hm h1
                have HPk := Lib.hid ((P20.out.alloc (.cells #[.int .i64 0, .int .i64 0, .bool false, .bool false, .bool false, .bool false, .bool false, .int .i64 0, .int .i64 0] 45)).alloc (.cells #[.int .i64 0, .int .i64 0, .int .i64 0, .bool false, .int .i64 0] 47))
                have pc0 := HPk.out.get 0 (.slice f l c) rfl
                go_wp2_with fail
                refine (HM.out _).mono ?_
                rintro e w21 ⟨rfl, hb21⟩
                have P22 := Lib.hid (((P20.out.alloc (.cells #[.int .i64 0, .int .i64 0, .bool false, .bool false, .bool false, .bool false, .bool false, .int .i64 0, .int .i64 0] 45)).alloc (.cells #[.int .i64 0, .int .i64 0, .int .i64 0, .bool false, .int .i64 0] 47)).below hb21)
                have H22 := Lib.hid (((H20.out.alloc (.cells #[.int .i64 0, .int .i64 0, .bool false, .bool false, .bool false, .bool false, .bool false, .int .i64 0, .int .i64 0] 45)).alloc (.cells #[.int .i64 0, .int .i64 0, .int .i64 0, .bool false, .int .i64 0] 47)).below hb21)
                have F22 := Lib.hid (((F20.out.alloc (.cells #[.int .i64 0, .int .i64 0, .bool false, .bool false, .bool false, .bool false, .bool false, .int .i64 0, .int .i64 0] 45)).alloc (.cells #[.int .i64 0, .int .i64 0, .int .i64 0, .bool false, .int .i64 0] 47)).below hb21)
                have X22 := Lib.hid (((BoxAt.newAt _ #[.int .i64 0, .int .i64 0, .bool false, .bool false, .bool false, .bool false, .bool false, .int .i64 0, .int .i64 0] 45 (w20.heap.size) (by first | rfl | (simp; done) | (simp; omega))).alloc (.cells #[.int .i64 0, .int .i64 0, .int .i64 0, .bool false, .int .i64 0] 47)).below hb21)
                have Y22 := Lib.hid ((BoxAt.newAt _ #[.int .i64 0, .int .i64 0, .int .i64 0, .bool false, .int .i64 0] 47 (w20.heap.size + 1) (by first | rfl | (simp; done) | (simp; omega))).below hb21)
                have O22 := Lib.hid (((O20.out.alloc (.cells #[.int .i64 0, .int .i64 0, .bool false, .bool false, .bool false, .bool false, .bool false, .int .i64 0, .int .i64 0] 45)).alloc (.cells #[.int .i64 0, .int .i64 0, .int .i64 0, .bool false, .int .i64 0] 47)).below hb21)
                have B22 := Lib.hid (bel_trans (bel_alloc (bel_alloc B20.out (.cells #[.int .i64 0, .int .i64 0, .bool false, .bool false, .bool false, .bool false, .bool false, .int .i64 0, .int .i64 0] 45)) (.cells #[.int .i64 0, .int .i64 0, .int .i64 0, .bool false, .int .i64 0] 47)) hb21)
                clear pc0
                clear P20 H20 F20 O20 B20 hb21
                clear HPk
                have Pc1 := P22.out.get 1 (.int .i64 fr) rfl
                go_wp2_with fail
                refine (HPF.out _).mono ?_
                rintro e w23 ⟨rfl, rfl⟩
                clear Pc1
                have Hc0 := H22.out.get 0 (.int .i64 0) rfl
                have Hc1 := H22.out.get 1 (.int .i64 0) rfl
                have Hc2 := H22.out.get 2 (.bool false) rfl
                have Hc3 := H22.out.get 3 (.bool false) rfl
                have Hc4 := H22.out.get 4 (.bool false) rfl
                have Hc5 := H22.out.get 5 (.bool false) rfl
                have Hc6 := H22.out.get 6 (.bool false) rfl
                have Hc7 := H22.out.get 7 (.int .i64 0) rfl
                have Hc8 := H22.out.get 8 (.int .i64 0) rfl
                have Xc0 := X22.out.get 0 (.int .i64 0) rfl
                have Xc1 := X22.out.get 1 (.int .i64 0) rfl
                have Xc2 := X22.out.get 2 (.bool false) rfl
                have Xc3 := X22.out.get 3 (.bool false) rfl
                have Xc4 := X22.out.get 4 (.bool false) rfl
                have Xc5 := X22.out.get 5 (.bool false) rfl
                have Xc6 := X22.out.get 6 (.bool false) rfl
                have Xc7 := X22.out.get 7 (.int .i64 0) rfl
                have Xc8 := X22.out.get 8 (.int .i64 0) rfl
                have Fc0 := F22.out.get 0 (.int .i64 0) rfl
                have Fc1 := F22.out.get 1 (.int .i64 0) rfl
                have Fc2 := F22.out.get 2 (.int .i64 0) rfl
                have Fc3 := F22.out.get 3 (.bool false) rfl
                have Fc4 := F22.out.get 4 (.int .i64 0) rfl
                have Yc0 := Y22.out.get 0 (.int .i64 0) rfl
                have Yc1 := Y22.out.get 1 (.int .i64 0) rfl
                have Yc2 := Y22.out.get 2 (.int .i64 0) rfl
                have Yc3 := Y22.out.get 3 (.bool false) rfl
                have Yc4 := Y22.out.get 4 (.int .i64 0) rfl
                go_wp2_with fail
                refine (lnum5_any _ _).mono ?_
                rintro e w24 ⟨rfl, rfl⟩
                go_wp2_with fail
                refine (eqI_any _ _ _ _ _ _ [] _ (by simp; try omega) (by simp) (by simp) O22.out.ints.2 (CellsAt.empty _ _ _)).mono ?_
                rintro e w30 ⟨rfl, m30, rfl⟩
                clear Hc0 Hc1 Hc2 Hc3 Hc4 Hc5 Hc6 Hc7 Hc8 Xc0 Xc1 Xc2 Xc3 Xc4 Xc5 Xc6 Xc7 Xc8 Fc0 Fc1 Fc2 Fc3 Fc4 Yc0 Yc1 Yc2 Yc3 Yc4
                go_wp2_with fail
                refine (spoilI_any wr.heap.size _ _ _ [] _ (by simp; try omega) (by have := B22.out.size; have := H22.out.lt; simp; omega) (O22.out.drewN m30)).mono ?_
                rintro e w31 ⟨rfl, hb31⟩
                go_wp2
                go_roundw
                case rel => exact ⟨st + 1, by omega, by omega, rfl, (below_drewN B22.out m30).trans (hb31.mono hws)⟩
                case measure => (simp [intOf] <;> omega)
              · have hst0 : decide (0 < st) = true := decide_eq_true h0
                rw [hm] at HM
                rw [h1] at HPF
                rw [h2] at HPG
                clear hm h1 h2
                have HPk := Lib.hid ((P20.out.alloc (.cells #[.int .i64 0, .int .i64 0, .bool false, .bool false, .bool false, .bool false, .bool false, .int .i64 0, .int .i64 0] 45)).alloc (.cells #[.int .i64 0, .int .i64 0, .int .i64 0, .bool false, .int .i64 0] 47))
                have pc0 := HPk.out.get 0 (.slice f l c) rfl
                go_wp2_with fail
                refine (HM.out _).mono ?_
                rintro e w21 ⟨rfl, hb21⟩
                have P22 := Lib.hid (((P20.out.alloc (.cells #[.int .i64 0, .int .i64 0, .bool false, .bool false, .bool false, .bool false, .bool false, .int .i64 0, .int .i64 0] 45)).alloc (.cells #[.int .i64 0, .int .i64 0, .int .i64 0, .bool false, .int .i64 0] 47)).below hb21)
                have H22 := Lib.hid (((H20.out.alloc (.cells #[.int .i64 0, .int .i64 0, .bool false, .bool false, .bool false, .bool false, .bool false, .int .i64 0, .int .i64 0] 45)).alloc (.cells #[.int .i64 0, .int .i64 0, .int .i64 0, .bool false, .int .i64 0] 47)).below hb21)
                have F22 := Lib.hid (((F20.out.alloc (.cells #[.int .i64 0, .int .i64 0, .bool false, .bool false, .bool false, .bool false, .bool false, .int .i64 0, .int .i64 0] 45)).alloc (.cells #[.int .i64 0, .int .i64 0, .int .i64 0, .bool false, .int .i64 0] 47)).below hb21)
                have X22 := Lib.hid (((BoxAt.newAt _ #[.int .i64 0, .int .i64 0, .bool false, .bool false, .bool false, .bool false, .bool false, .int .i64 0, .int .i64 0] 45 (w20.heap.size) (by first | rfl | (simp; done) | (simp; omega))).alloc (.cells #[.int .i64 0, .int .i64 0, .int .i64 0, .bool false, .int .i64 0] 47)).below hb21)
                have Y22 := Lib.hid ((BoxAt.newAt _ #[.int .i64 0, .int .i64 0, .int .i64 0, .bool false, .int .i64 0] 47 (w20.heap.size + 1) (by first | rfl | (simp; done) | (simp; omega))).below hb21)
                have O22 := Lib.hid (((O20.out.alloc (.cells #[.int .i64 0, .int .i64 0, .bool false, .bool false, .bool false, .bool false, .bool false, .int .i64 0, .int .i64 0] 45)).alloc (.cells #[.int .i64 0, .int .i64 0, .int .i64 0, .bool false, .int .i64 0] 47)).below hb21)
                have B22 := Lib.hid (bel_trans (bel_alloc (bel_alloc B20.out (.cells #[.int .i64 0, .int .i64 0, .bool false, .bool false, .bool false, .bool false, .bool false, .int .i64 0, .int .i64 0] 45)) (.cells #[.int .i64 0, .int .i64 0, .int .i64 0, .bool false, .int .i64 0] 47)) hb21)
                clear pc0
                clear P20 H20 F20 O20 B20 hb21
                clear HPk
                have Pc1 := P22.out.get 1 (.int .i64 fr) rfl
                go_wp2_with fail
                refine (HPF.out _).mono ?_
                rintro e w23 ⟨rfl, rfl⟩
                clear Pc1
                have Pc2 := P22.out.get 2 (.slice (some ⟨gb, go, none⟩) n d) rfl
                have hpk24 := keepc B22.out HPK.out
                go_wp2_with fail
                refine (HPG.out _).mono ?_
                rintro e w25 ⟨rfl, rfl⟩
                clear Pc2 hpk24
                have Hc0 := H22.out.get 0 (.int .i64 0) rfl
                have Hc1 := H22.out.get 1 (.int .i64 0) rfl
                have Hc2 := H22.out.get 2 (.bool false) rfl
                have Hc3 := H22.out.get 3 (.bool false) rfl
                have Hc4 := H22.out.get 4 (.bool false) rfl
                have Hc5 := H22.out.get 5 (.bool false) rfl
                have Hc6 := H22.out.get 6 (.bool false) rfl
                have Hc7 := H22.out.get 7 (.int .i64 0) rfl
                have Hc8 := H22.out.get 8 (.int .i64 0) rfl
                have Xc0 := X22.out.get 0 (.int .i64 0) rfl
                have Xc1 := X22.out.get 1 (.int .i64 0) rfl
                have Xc2 := X22.out.get 2 (.bool false) rfl
                have Xc3 := X22.out.get 3 (.bool false) rfl
                have Xc4 := X22.out.get 4 (.bool false) rfl
                have Xc5 := X22.out.get 5 (.bool false) rfl
                have Xc6 := X22.out.get 6 (.bool false) rfl
                have Xc7 := X22.out.get 7 (.int .i64 0) rfl
                have Xc8 := X22.out.get 8 (.int .i64 0) rfl
                have Fc0 := F22.out.get 0 (.int .i64 0) rfl
                have Fc1 := F22.out.get 1 (.int .i64 0) rfl
                have Fc2 := F22.out.get 2 (.int .i64 0) rfl
                have Fc3 := F22.out.get 3 (.bool false) rfl
                have Fc4 := F22.out.get 4 (.int .i64 0) rfl
                have Yc0 := Y22.out.get 0 (.int .i64 0) rfl
                have Yc1 := Y22.out.get 1 (.int .i64 0) rfl
                have Yc2 := Y22.out.get 2 (.int .i64 0) rfl
                have Yc3 := Y22.out.get 3 (.bool false) rfl
                have Yc4 := Y22.out.get 4 (.int .i64 0) rfl
                go_wp2_with fail
                refine (lnum5_any _ _).mono ?_
                rintro e w26 ⟨rfl, rfl⟩
                go_wp2_with fail
                refine (eqI_any _ _ _ _ _ _ [] _ (by simp; try omega) (by simp) (by simp) O22.out.ints.2 (CellsAt.empty _ _ _)).mono ?_
                rintro e w30 ⟨rfl, m30, rfl⟩
                clear Hc0 Hc1 Hc2 Hc3 Hc4 Hc5 Hc6 Hc7 Hc8 Xc0 Xc1 Xc2 Xc3 Xc4 Xc5 Xc6 Xc7 Xc8 Fc0 Fc1 Fc2 Fc3 Fc4 Yc0 Yc1 Yc2 Yc3 Yc4
                go_wp2_with fail
                refine (spoilI_any wr.heap.size _ _ _ [] _ (by simp; try omega) (by have := B22.out.size; have := H22.out.lt; simp; omega) (O22.out.drewN m30)).mono ?_
                rintro e w31 ⟨rfl, hb31⟩
                go_wp2
                go_roundw
                case rel => exact ⟨st + 1, by omega, by omega, rfl, (below_drewN B22.out m30).trans (hb31.mono hws)⟩
                case measure => (simp [intOf] <;> omega)
              · exfalso
                have h3 := HNA.out
                unfold walkMay at h3
                rw [hm, h1, h2] at h3
                simp at h3
                omega
          · obtain ⟨hm, h0, h1, h2⟩ : okM l = true ∧ 0 < st ∧ numB fr 4095 = true ∧ numB pg 4095 = true := by
              have h3 := hA
              unfold walkMay at h3
              simp only [Bool.and_eq_true, decide_eq_true_eq] at h3
              exact ⟨h3.1, by omega, h3.2.2.1, h3.2.2.2⟩
            clear hcase
            have hs12 : st = 1 ∨ st = 2 := by omega
            have hst0 : decide (0 < st) = true := decide_eq_true h0
            have q1 := numB_iff.1 h1
            have q2 := numB_iff.1 h2
            have hR4 := walkD_len l X st fr pg q1.1 q2.1
            have HRR := Lib.hid (fun W h => HWR.out st pg W h hm hs12 q2.1 q2.2 q1.1 q1.2)
            rw [hm] at HM
            rw [h1] at HPF
            rw [h2] at HPG
            clear hm h1 h2 hs12 q1 q2
            simp only [walkA_yes hA] at HT
            clear hA
            generalize walkD l X st fr pg = q at *
            obtain ⟨⟨hf, hm', ⟨hr, hw, hx, ha, hn, hs⟩, hl⟩, ⟨fk, fs, fl, fw, fp⟩, R⟩ := q
            unfold Walk4End hitV fltV at HT
            unfold WalkEnd hitV fltV at HRR
            simp only at HT HRR hR4
            have hq1 : eqH ⟨hf, hm', ⟨hr, hw, hx, ha, hn, hs⟩, hl⟩ ⟨hf, hm', ⟨hr, hw, hx, ha, hn, hs⟩, hl⟩ = true := eqH_self _
            have hq2 : eqF ⟨fk, fs, fl, fw, fp⟩ ⟨fk, fs, fl, fw, fp⟩ = true := eqF_self _
            have Pc0 := X2.out.get 0 (.slice f l c) rfl
            have Pc1 := X2.out.get 1 (.int .i64 fr) rfl
            have Pc2 := X2.out.get 2 (.slice (some ⟨gb, go, none⟩) n d) rfl
            have hpk3 := hpk2.out
            have hlP : w.heap.size < wr.heap.size := X2.out.lt
            have hlG : gb < wr.heap.size := cell_block hpk2.out
            have hneP : w.heap.size ≠ wr.heap.size := Nat.ne_of_lt X2.out.lt
            have hneG : gb ≠ wr.heap.size := Nat.ne_of_lt (cell_block hpk2.out)
            have hneP1 : w.heap.size ≠ wr.heap.size + 1 := by have := X2.out.lt; omega
            have hneG1 : gb ≠ wr.heap.size + 1 := by have : gb < wr.heap.size := cell_block hpk2.out; omega
            go_upto_region 9 with fail
            go_cut [5, 6, 7, 8] (fun s5 s6 s7 s8 wx => ∃ (bH : Nat) (bF : Nat) (f' : Option Addr) (c' : Nat), s5 = .pointer (some ⟨bH, 0, none⟩) ∧ s6 = .pointer (some ⟨bF, 0, none⟩) ∧ s7 = .slice f' (R.length) c' ∧ s8 = .int .i64 0 ∧ wr.heap.size ≤ bH ∧ wr.heap.size ≤ bF ∧ bH ≠ bF ∧ Hid (Below wr.heap.size wr wx) ∧ Hid (BoxAt wx bH #[.int .i64 hf, .int .i64 hm', .bool hr, .bool hw, .bool hx, .bool ha, .bool hn, .int .i64 hs, .int .i64 hl] 45) ∧ Hid (BoxAt wx bF #[.int .i64 fk, .int .i64 fs, .int .i64 fl, .bool fw, .int .i64 fp] 47) ∧ Hid (OwnI wx wr.heap.size (.slice f' (R.length) c') (R)))
            case first =>
              rename_i JJ KK hJJ hKK
              refine wp_region_held_drew (S := (fun w' => w'.cell? ⟨w.heap.size, 0, none⟩ = some (.slice f l c) ∧ w'.cell? ⟨w.heap.size, 1, none⟩ = some (.int .i64 fr) ∧ w'.cell? ⟨w.heap.size, 2, none⟩ = some (.slice (some ⟨gb, go, none⟩) n d) ∧ w'.cell? ⟨gb, go + k, none⟩ = some (.int .i64 pg))) (by kernel_rfl) ?_ (fun hS => ?_)
              · (refine ⟨?_, ?_, ?_, ?_⟩ <;> (repeat (first | with_reducible exact hS.1 | with_reducible exact hS.2.1 | with_reducible exact hS.2.2.1 | with_reducible exact hS.2.2.2 | with_reducible assumption | with_reducible refine cell_keep ?_ _ | with_reducible refine cell_drew ?_ | with_reducible refine cell_row hneP ?_ | with_reducible refine cell_row hneG ?_ | with_reducible refine cell_row hneP1 ?_ | with_reducible refine cell_row hneG1 ?_ | with_reducible refine cell_row (by omega) ?_ | refine keepc hb20 ?_)))
              refine wpAnyH_take (i := 0) (oi := ⟨some 31, _, _, _, _, _⟩) (v := ?_) rfl (by kernel_rfl) (by kernel_rfl) (by kernel_rfl) (fun _ _ _ h => h) (Or.inl ⟨by rfl, ?_⟩) hS ?_
              rotate_left
              · (intro w' hSw; obtain ⟨s1, s2, s3, s4⟩ := hSw; go_simp; try with_reducible rfl)
              simp only [Act.put, List.setIfInBounds_toArray, List.set_cons_zero, List.set_cons_succ]
              refine wpAnyH_take (i := 1) (oi := ⟨some 32, _, _, _, _, _⟩) (v := ?_) rfl (by kernel_rfl) (by kernel_rfl) (by kernel_rfl) (fun _ _ _ h => h) (Or.inl ⟨by rfl, ?_⟩) hS ?_
              rotate_left
              · (intro w' hSw; obtain ⟨s1, s2, s3, s4⟩ := hSw; go_simp; try with_reducible rfl)
              simp only [Act.put, List.setIfInBounds_toArray, List.set_cons_zero, List.set_cons_succ]
              refine wpAnyH_take (i := 2) (oi := ⟨some 33, _, _, _, _, _⟩) (v := ?_) rfl (by kernel_rfl) (by kernel_rfl) (by kernel_rfl) (fun _ _ _ h => h) (Or.inl ⟨by rfl, ?_⟩) hS ?_
              rotate_left
              · (intro w' hSw; obtain ⟨s1, s2, s3, s4⟩ := hSw; go_simp; try with_reducible rfl)
              simp only [Act.put, List.setIfInBounds_toArray, List.set_cons_zero, List.set_cons_succ]
              refine wpAnyH_take (i := 3) (oi := ⟨some 34, _, _, _, _, _⟩) (v := ?_) rfl (by kernel_rfl) (by kernel_rfl) (by kernel_rfl) (fun _ _ _ h => h) (Or.inl ⟨by rfl, ?_⟩) hS ?_
              rotate_left
              · (intro w' hSw; obtain ⟨s1, s2, s3, s4⟩ := hSw; go_simp; try with_reducible rfl)
              simp only [Act.put, List.setIfInBounds_toArray, List.set_cons_zero, List.set_cons_succ]
              refine wpAnyH_take (i := 4) (oi := ⟨some 35, _, _, _, _, _⟩) (v := ?_) rfl (by kernel_rfl) (by kernel_rfl) (by kernel_rfl) (fun _ _ _ h => h) (Or.inl ⟨by rfl, ?_⟩) hS ?_
              rotate_left
              · (intro w' hSw; obtain ⟨s1, s2, s3, s4⟩ := hSw; go_simp; try with_reducible rfl)
              simp only [Act.put, List.setIfInBounds_toArray, List.set_cons_zero, List.set_cons_succ]
              refine wpAnyH_take (i := 5) (oi := ⟨some 36, _, _, _, _, _⟩) (v := ?_) rfl (by kernel_rfl) (by kernel_rfl) (by kernel_rfl) (fun _ _ _ h => h) (Or.inl ⟨by rfl, ?_⟩) hS ?_
              rotate_left
              · (intro w' hSw; obtain ⟨s1, s2, s3, s4⟩ := hSw; go_simp; try with_reducible rfl)
              simp only [Act.put, List.setIfInBounds_toArray, List.set_cons_zero, List.set_cons_succ]
              refine wpAnyH_take (i := 6) (oi := ⟨some 37, _, _, _, _, _⟩) (v := ?_) rfl (by kernel_rfl) (by kernel_rfl) (by kernel_rfl) (fun _ _ _ h => h) (Or.inl ⟨by rfl, ?_⟩) hS ?_
              rotate_left
              · (intro w' hSw; obtain ⟨s1, s2, s3, s4⟩ := hSw; go_simp; try with_reducible rfl)
              simp only [Act.put, List.setIfInBounds_toArray, List.set_cons_zero, List.set_cons_succ]
              refine wpAnyH_take (i := 7) (oi := ⟨some 38, _, _, _, _, _⟩) (v := ?_) rfl (by kernel_rfl) (by kernel_rfl) (by kernel_rfl) (fun _ _ _ h => h) (Or.inl ⟨by rfl, ?_⟩) hS ?_
              rotate_left
              · (intro w' hSw; obtain ⟨s1, s2, s3, s4⟩ := hSw; go_simp; try with_reducible rfl)
              simp only [Act.put, List.setIfInBounds_toArray, List.set_cons_zero, List.set_cons_succ]
              refine wpAnyH_take (i := 8) (oi := ⟨some 39, _, _, _, _, _⟩) (v := ?_) rfl (by kernel_rfl) (by kernel_rfl) (by kernel_rfl) (fun _ _ _ h => h) (Or.inl ⟨by rfl, ?_⟩) hS ?_
              rotate_left
              · (intro w' hSw; obtain ⟨s1, s2, s3, s4⟩ := hSw; go_simp; try with_reducible rfl)
              simp only [Act.put, List.setIfInBounds_toArray, List.set_cons_zero, List.set_cons_succ]
              refine wpAnyH_take (i := 9) (oi := ⟨some 40, _, _, _, _, _⟩) (v := ?_) rfl (by kernel_rfl) (by kernel_rfl) (by kernel_rfl) (fun _ _ _ h => h) (Or.inl ⟨by rfl, ?_⟩) hS ?_
              rotate_left
              · (intro w' hSw; obtain ⟨s1, s2, s3, s4⟩ := hSw; go_simp; try with_reducible rfl)
              simp only [Act.put, List.setIfInBounds_toArray, List.set_cons_zero, List.set_cons_succ]
              refine wpAnyH_ready (rs := [10, 16, 17]) (by kernel_rfl) (by simp) ?_
              refine AllReadyH.cons (o := ⟨some 41, _, _, _, _, _⟩) rfl (fun K hK => ?_) ?_
              · go_simp
                refine (HT.out _ (HXc.out.below (by go_grown))).mono ?_
                rintro e w20 ⟨f', c', rfl, hO20, hb20⟩
                have hsz20 := hb20.size
                simp at hsz20
                refine hK.out _ _ ?_ (fun hS' => ?_)
                · (refine ⟨?_, ?_, ?_, ?_⟩ <;> (repeat (first | with_reducible exact hS.1 | with_reducible exact hS.2.1 | with_reducible exact hS.2.2.1 | with_reducible exact hS.2.2.2 | with_reducible assumption | with_reducible refine cell_keep ?_ _ | with_reducible refine cell_drew ?_ | with_reducible refine cell_row hneP ?_ | with_reducible refine cell_row hneG ?_ | with_reducible refine cell_row hneP1 ?_ | with_reducible refine cell_row hneG1 ?_ | with_reducible refine cell_row (by omega) ?_ | refine keepc hb20 ?_)))
                clear hK K hS
                have hS := hS'
                clear hS'
                try simp only [Act.put, List.setIfInBounds_toArray, List.set_cons_zero, List.set_cons_succ]
                refine wpAnyH_take (i := 11) (oi := ⟨some 30, _, _, _, _, _⟩) (v := ?_) rfl (by kernel_rfl) (by kernel_rfl) (by kernel_rfl) (fun _ _ _ h => h) (Or.inl ⟨by rfl, ?_⟩) hS ?_
                rotate_left
                · (intro w' hSw; obtain ⟨s1, s2, s3, s4⟩ := hSw; go_simp; try with_reducible rfl)
                simp only [Act.put, List.setIfInBounds_toArray, List.set_cons_zero, List.set_cons_succ]
                refine wpAnyH_take (i := 12) (oi := ⟨some 42, _, _, _, _, _⟩) (v := ?_) rfl (by kernel_rfl) (by kernel_rfl) (by kernel_rfl) (fun _ _ _ h => h) (Or.inl ⟨by rfl, ?_⟩) hS ?_
                rotate_left
                · (intro w' hSw; obtain ⟨s1, s2, s3, s4⟩ := hSw; go_simp; try with_reducible rfl)
                simp only [Act.put, List.setIfInBounds_toArray, List.set_cons_zero, List.set_cons_succ]
                refine wpAnyH_take (i := 13) (oi := ⟨some 43, _, _, _, _, _⟩) (v := ?_) rfl (by kernel_rfl) (by kernel_rfl) (by kernel_rfl) (fun _ _ _ h => h) (Or.inl ⟨by rfl, ?_⟩) hS ?_
                rotate_left
                · (intro w' hSw; obtain ⟨s1, s2, s3, s4⟩ := hSw; go_simp; try with_reducible rfl)
                simp only [Act.put, List.setIfInBounds_toArray, List.set_cons_zero, List.set_cons_succ]
                refine wpAnyH_take (i := 14) (oi := ⟨some 44, _, _, _, _, _⟩) (v := ?_) rfl (by kernel_rfl) (by kernel_rfl) (by kernel_rfl) (fun _ _ _ h => h) (Or.inl ⟨by rfl, ?_⟩) hS ?_
                rotate_left
                · (intro w' hSw; obtain ⟨s1, s2, s3, s4⟩ := hSw; go_simp; try with_reducible rfl)
                simp only [Act.put, List.setIfInBounds_toArray, List.set_cons_zero, List.set_cons_succ]
                refine wpAnyH_take (i := 15) (oi := ⟨some 45, _, _, _, _, _⟩) (v := ?_) rfl (by kernel_rfl) (by kernel_rfl) (by kernel_rfl) (fun _ _ _ h => h) (Or.inl ⟨by rfl, ?_⟩) hS ?_
                rotate_left
                · (intro w' hSw; obtain ⟨s1, s2, s3, s4⟩ := hSw; go_simp; try with_reducible rfl)
                simp only [Act.put, List.setIfInBounds_toArray, List.set_cons_zero, List.set_cons_succ]
                refine wpAnyH_ready (rs := [16, 17]) (by kernel_rfl) (by simp) ?_
                refine AllReadyH.cons (o := ⟨some 5, _, _, _, _, _⟩) rfl (fun K hK => ?_) ?_
                · go_simp
                  refine hK.out _ _ ?_ (fun hS' => ?_)
                  · (refine ⟨?_, ?_, ?_, ?_⟩ <;> (repeat (first | with_reducible exact hS.1 | with_reducible exact hS.2.1 | with_reducible exact hS.2.2.1 | with_reducible exact hS.2.2.2 | with_reducible assumption | with_reducible refine cell_keep ?_ _ | with_reducible refine cell_drew ?_ | with_reducible refine cell_row hneP ?_ | with_reducible refine cell_row hneG ?_ | with_reducible refine cell_row hneP1 ?_ | with_reducible refine cell_row hneG1 ?_ | with_reducible refine cell_row (by omega) ?_ | refine keepc hb20 ?_)))
                  clear hK K hS
                  have hS := hS'
                  clear hS'
                  try simp only [Act.put, List.setIfInBounds_toArray, List.set_cons_zero, List.set_cons_succ]
                  refine wpAnyH_ready (rs := [17]) (by kernel_rfl) (by simp) ?_
                  refine AllReadyH.cons (o := ⟨some 6, _, _, _, _, _⟩) rfl (fun K hK => ?_) AllReadyH.nil
                  go_simp
                  refine hK.out _ _ ?_ (fun hS' => ?_)
                  · (refine ⟨?_, ?_, ?_, ?_⟩ <;> (repeat (first | with_reducible exact hS.1 | with_reducible exact hS.2.1 | with_reducible exact hS.2.2.1 | with_reducible exact hS.2.2.2 | with_reducible assumption | with_reducible refine cell_keep ?_ _ | with_reducible refine cell_drew ?_ | with_reducible refine cell_row hneP ?_ | with_reducible refine cell_row hneG ?_ | with_reducible refine cell_row hneP1 ?_ | with_reducible refine cell_row hneG1 ?_ | with_reducible refine cell_row (by omega) ?_ | refine keepc hb20 ?_)))
                  clear hK K hS
                  have hS := hS'
                  clear hS'
                  try simp only [Act.put, List.setIfInBounds_toArray, List.set_cons_zero, List.set_cons_succ]
                  refine wpAnyH_ready (rs := [18]) (by kernel_rfl) (by simp) ?_
                  refine AllReadyH.cons (o := ⟨none, _, _, _, _, _⟩) rfl (fun K hK => ?_) AllReadyH.nil
                  refine step_storeB rfl 45 _ _ rfl _ _ #[.int .i64 0, .int .i64 0, .bool false, .bool false, .bool false, .bool false, .bool false, .int .i64 0, .int .i64 0] 45 rfl rfl (by kernel_rfl) rfl (by simp [Value.oneCell']) (by repeat' (first | (with_reducible refine BoxAt.newAt _ _ _ _ (by (simp; done))) | with_reducible refine BoxAt.putAny #[] ?_ rfl | (with_reducible refine BoxAt.row ?_ (by first | with_reducible assumption | omega | (simp; done) | (simp; omega))) | with_reducible refine BoxAt.alloc ?_ _ | with_reducible refine BoxAt.drew ?_ | with_reducible refine BoxAt.below ?_ hb20)) ?_
                  refine hK.out _ _ ?_ (fun hS' => ?_)
                  · (refine ⟨?_, ?_, ?_, ?_⟩ <;> (repeat (first | with_reducible exact hS.1 | with_reducible exact hS.2.1 | with_reducible exact hS.2.2.1 | with_reducible exact hS.2.2.2 | with_reducible assumption | with_reducible refine cell_keep ?_ _ | with_reducible refine cell_drew ?_ | with_reducible refine cell_row hneP ?_ | with_reducible refine cell_row hneG ?_ | with_reducible refine cell_row hneP1 ?_ | with_reducible refine cell_row hneG1 ?_ | with_reducible refine cell_row (by omega) ?_ | refine keepc hb20 ?_)))
                  clear hK K hS
                  have hS := hS'
                  clear hS'
                  try simp only [Act.put]
                  refine wpAnyH_ready (rs := [19]) (by kernel_rfl) (by simp) ?_
                  refine AllReadyH.cons (o := ⟨none, _, _, _, _, _⟩) rfl (fun K hK => ?_) AllReadyH.nil
                  refine step_storeB rfl 47 _ _ rfl _ _ #[.int .i64 0, .int .i64 0, .int .i64 0, .bool false, .int .i64 0] 47 rfl rfl (by kernel_rfl) rfl (by simp [Value.oneCell']) (by repeat' (first | (with_reducible refine BoxAt.newAt _ _ _ _ (by (simp; done))) | with_reducible refine BoxAt.putAny #[] ?_ rfl | (with_reducible refine BoxAt.row ?_ (by first | with_reducible assumption | omega | (simp; done) | (simp; omega))) | with_reducible refine BoxAt.alloc ?_ _ | with_reducible refine BoxAt.drew ?_ | with_reducible refine BoxAt.below ?_ hb20)) ?_
                  refine hK.out _ _ ?_ (fun hS' => ?_)
                  · (refine ⟨?_, ?_, ?_, ?_⟩ <;> (repeat (first | with_reducible exact hS.1 | with_reducible exact hS.2.1 | with_reducible exact hS.2.2.1 | with_reducible exact hS.2.2.2 | with_reducible assumption | with_reducible refine cell_keep ?_ _ | with_reducible refine cell_drew ?_ | with_reducible refine cell_row hneP ?_ | with_reducible refine cell_row hneG ?_ | with_reducible refine cell_row hneP1 ?_ | with_reducible refine cell_row hneG1 ?_ | with_reducible refine cell_row (by omega) ?_ | refine keepc hb20 ?_)))
                  clear hK K hS
                  have hS := hS'
                  clear hS'
                  try simp only [Act.put]
                  refine wpAnyH_take (i := 20) (oi := ⟨some 7, _, _, _, _, _⟩) (v := ?_) rfl (by kernel_rfl) (by kernel_rfl) (by kernel_rfl) (fun _ _ _ h => h) (Or.inl ⟨by rfl, ?_⟩) hS ?_
                  rotate_left
                  · (intro w' hSw; obtain ⟨s1, s2, s3, s4⟩ := hSw; go_simp; try with_reducible rfl)
                  simp only [Act.put, List.setIfInBounds_toArray, List.set_cons_zero, List.set_cons_succ]
                  refine wpAnyH_take (i := 21) (oi := ⟨some 8, _, _, _, _, _⟩) (v := ?_) rfl (by kernel_rfl) (by kernel_rfl) (by kernel_rfl) (fun _ _ _ h => h) (Or.inl ⟨by rfl, ?_⟩) hS ?_
                  rotate_left
                  · (intro w' hSw; obtain ⟨s1, s2, s3, s4⟩ := hSw; go_simp; try with_reducible rfl)
                  simp only [Act.put, List.setIfInBounds_toArray, List.set_cons_zero, List.set_cons_succ]
                  refine wpAnyH_done (by kernel_rfl) ?_ _
                  show KK _ _
                  refine hKK _ _ (Met.intro (hJJ _ _ ?_))
                  (repeat apply Exists.intro)
                  refine ⟨?_, rfl⟩
                  refine ⟨w20.heap.size, w20.heap.size + 1, f', c', rfl, rfl, rfl, rfl, (by omega), (by omega), (by first | omega | (simp; done)), ?_, ?_, ?_, ?_⟩
                  · show Below _ _ _
                    repeat' (first | with_reducible exact Below.refl wr.heap.size wr | (with_reducible refine Below.rowB ?_ (by first | omega | (simp; done) | (simp; omega))) | with_reducible refine Below.setCell ?_ (by first | omega | (simp; done) | (simp; omega)) _ | with_reducible refine bel_alloc ?_ _ | with_reducible refine Below.drew ?_ | with_reducible refine bel_trans ?_ hb20)
                  · show BoxAt _ _ _ _
                    repeat' (first | (with_reducible refine BoxAt.newAt _ _ _ _ (by (simp; done))) | with_reducible refine BoxAt.putAny #[.int .i64 0, .int .i64 0, .bool false, .bool false, .bool false, .bool false, .bool false, .int .i64 0, .int .i64 0] ?_ rfl | (with_reducible refine BoxAt.row ?_ (by first | with_reducible assumption | omega | (simp; done) | (simp; omega))) | with_reducible refine BoxAt.alloc ?_ _ | with_reducible refine BoxAt.drew ?_ | with_reducible refine BoxAt.below ?_ hb20)
                  · show BoxAt _ _ _ _
                    repeat' (first | (with_reducible refine BoxAt.newAt _ _ _ _ (by (simp; done))) | with_reducible refine BoxAt.putAny #[.int .i64 0, .int .i64 0, .int .i64 0, .bool false, .int .i64 0] ?_ rfl | (with_reducible refine BoxAt.row ?_ (by first | with_reducible assumption | omega | (simp; done) | (simp; omega))) | with_reducible refine BoxAt.alloc ?_ _ | with_reducible refine BoxAt.drew ?_ | with_reducible refine BoxAt.below ?_ hb20)
                  · show OwnI _ _ _ _
                    have hO21 := OwnI.mono hO20 (base' := wr.heap.size) (by first | omega | (simp; done))
                    refine OwnI.mono (base := wr.heap.size) ?_ (by omega)
                    repeat' (first | with_reducible exact hO21 | (with_reducible refine OwnI.rowHi hO21 ?_ (by omega)) | (with_reducible refine OwnI.row ?_ (by first | omega | (simp; done) | (simp; omega))) | with_reducible refine OwnI.other ?_ _ _ (by first | with_reducible assumption | (simp; done) | (simp; omega)) | with_reducible refine OwnI.alloc ?_ _ | with_reducible refine OwnI.drew ?_)
                refine AllReadyH.cons (o := ⟨some 6, _, _, _, _, _⟩) rfl (fun K hK => ?_) AllReadyH.nil
                go_simp
                refine hK.out _ _ ?_ (fun hS' => ?_)
                · (refine ⟨?_, ?_, ?_, ?_⟩ <;> (repeat (first | with_reducible exact hS.1 | with_reducible exact hS.2.1 | with_reducible exact hS.2.2.1 | with_reducible exact hS.2.2.2 | with_reducible assumption | with_reducible refine cell_keep ?_ _ | with_reducible refine cell_drew ?_ | with_reducible refine cell_row hneP ?_ | with_reducible refine cell_row hneG ?_ | with_reducible refine cell_row hneP1 ?_ | with_reducible refine cell_row hneG1 ?_ | with_reducible refine cell_row (by omega) ?_ | refine keepc hb20 ?_)))
                clear hK K hS
                have hS := hS'
                clear hS'
                try simp only [Act.put, List.setIfInBounds_toArray, List.set_cons_zero, List.set_cons_succ]
                refine wpAnyH_ready (rs := [16]) (by kernel_rfl) (by simp) ?_
                refine AllReadyH.cons (o := ⟨some 5, _, _, _, _, _⟩) rfl (fun K hK => ?_) AllReadyH.nil
                go_simp
                refine hK.out _ _ ?_ (fun hS' => ?_)
                · (refine ⟨?_, ?_, ?_, ?_⟩ <;> (repeat (first | with_reducible exact hS.1 | with_reducible exact hS.2.1 | with_reducible exact hS.2.2.1 | with_reducible exact hS.2.2.2 | with_reducible assumption | with_reducible refine cell_keep ?_ _ | with_reducible refine cell_drew ?_ | with_reducible refine cell_row hneP ?_ | with_reducible refine cell_row hneG ?_ | with_reducible refine cell_row hneP1 ?_ | with_reducible refine cell_row hneG1 ?_ | with_reducible refine cell_row (by omega) ?_ | refine keepc hb20 ?_)))
                clear hK K hS
                have hS := hS'
                clear hS'
                try simp only [Act.put, List.setIfInBounds_toArray, List.set_cons_zero, List.set_cons_succ]
                refine wpAnyH_ready (rs := [18]) (by kernel_rfl) (by simp) ?_
                refine AllReadyH.cons (o := ⟨none, _, _, _, _, _⟩) rfl (fun K hK => ?_) AllReadyH.nil
                refine step_storeB rfl 45 _ _ rfl _ _ #[.int .i64 0, .int .i64 0, .bool false, .bool false, .bool false, .bool false, .bool false, .int .i64 0, .int .i64 0] 45 rfl rfl (by kernel_rfl) rfl (by simp [Value.oneCell']) (by repeat' (first | (with_reducible refine BoxAt.newAt _ _ _ _ (by (simp; done))) | with_reducible refine BoxAt.putAny #[] ?_ rfl | (with_reducible refine BoxAt.row ?_ (by first | with_reducible assumption | omega | (simp; done) | (simp; omega))) | with_reducible refine BoxAt.alloc ?_ _ | with_reducible refine BoxAt.drew ?_ | with_reducible refine BoxAt.below ?_ hb20)) ?_
                refine hK.out _ _ ?_ (fun hS' => ?_)
                · (refine ⟨?_, ?_, ?_, ?_⟩ <;> (repeat (first | with_reducible exact hS.1 | with_reducible exact hS.2.1 | with_reducible exact hS.2.2.1 | with_reducible exact hS.2.2.2 | with_reducible assumption | with_reducible refine cell_keep ?_ _ | with_reducible refine cell_drew ?_ | with_reducible refine cell_row hneP ?_ | with_reducible refine cell_row hneG ?_ | with_reducible refine cell_row hneP1 ?_ | with_reducible refine cell_row hneG1 ?_ | with_reducible refine cell_row (by omega) ?_ | refine keepc hb20 ?_)))
                clear hK K hS
                have hS := hS'
                clear hS'
                try simp only [Act.put]
                refine wpAnyH_ready (rs := [19]) (by kernel_rfl) (by simp) ?_
                refine AllReadyH.cons (o := ⟨none, _, _, _, _, _⟩) rfl (fun K hK => ?_) AllReadyH.nil
                refine step_storeB rfl 47 _ _ rfl _ _ #[.int .i64 0, .int .i64 0, .int .i64 0, .bool false, .int .i64 0] 47 rfl rfl (by kernel_rfl) rfl (by simp [Value.oneCell']) (by repeat' (first | (with_reducible refine BoxAt.newAt _ _ _ _ (by (simp; done))) | with_reducible refine BoxAt.putAny #[] ?_ rfl | (with_reducible refine BoxAt.row ?_ (by first | with_reducible assumption | omega | (simp; done) | (simp; omega))) | with_reducible refine BoxAt.alloc ?_ _ | with_reducible refine BoxAt.drew ?_ | with_reducible refine BoxAt.below ?_ hb20)) ?_
                refine hK.out _ _ ?_ (fun hS' => ?_)
                · (refine ⟨?_, ?_, ?_, ?_⟩ <;> (repeat (first | with_reducible exact hS.1 | with_reducible exact hS.2.1 | with_reducible exact hS.2.2.1 | with_reducible exact hS.2.2.2 | with_reducible assumption | with_reducible refine cell_keep ?_ _ | with_reducible refine cell_drew ?_ | with_reducible refine cell_row hneP ?_ | with_reducible refine cell_row hneG ?_ | with_reducible refine cell_row hneP1 ?_ | with_reducible refine cell_row hneG1 ?_ | with_reducible refine cell_row (by omega) ?_ | refine keepc hb20 ?_)))
                clear hK K hS
                have hS := hS'
                clear hS'
                try simp only [Act.put]
                refine wpAnyH_take (i := 20) (oi := ⟨some 7, _, _, _, _, _⟩) (v := ?_) rfl (by kernel_rfl) (by kernel_rfl) (by kernel_rfl) (fun _ _ _ h => h) (Or.inl ⟨by rfl, ?_⟩) hS ?_
                rotate_left
                · (intro w' hSw; obtain ⟨s1, s2, s3, s4⟩ := hSw; go_simp; try with_reducible rfl)
                simp only [Act.put, List.setIfInBounds_toArray, List.set_cons_zero, List.set_cons_succ]
                refine wpAnyH_take (i := 21) (oi := ⟨some 8, _, _, _, _, _⟩) (v := ?_) rfl (by kernel_rfl) (by kernel_rfl) (by kernel_rfl) (fun _ _ _ h => h) (Or.inl ⟨by rfl, ?_⟩) hS ?_
                rotate_left
                · (intro w' hSw; obtain ⟨s1, s2, s3, s4⟩ := hSw; go_simp; try with_reducible rfl)
                simp only [Act.put, List.setIfInBounds_toArray, List.set_cons_zero, List.set_cons_succ]
                refine wpAnyH_done (by kernel_rfl) ?_ _
                show KK _ _
                refine hKK _ _ (Met.intro (hJJ _ _ ?_))
                (repeat apply Exists.intro)
                refine ⟨?_, rfl⟩
                refine ⟨w20.heap.size + 1, w20.heap.size, f', c', rfl, rfl, rfl, rfl, (by omega), (by omega), (by first | omega | (simp; done)), ?_, ?_, ?_, ?_⟩
                · show Below _ _ _
                  repeat' (first | with_reducible exact Below.refl wr.heap.size wr | (with_reducible refine Below.rowB ?_ (by first | omega | (simp; done) | (simp; omega))) | with_reducible refine Below.setCell ?_ (by first | omega | (simp; done) | (simp; omega)) _ | with_reducible refine bel_alloc ?_ _ | with_reducible refine Below.drew ?_ | with_reducible refine bel_trans ?_ hb20)
                · show BoxAt _ _ _ _
                  repeat' (first | (with_reducible refine BoxAt.newAt _ _ _ _ (by (simp; done))) | with_reducible refine BoxAt.putAny #[.int .i64 0, .int .i64 0, .bool false, .bool false, .bool false, .bool false, .bool false, .int .i64 0, .int .i64 0] ?_ rfl | (with_reducible refine BoxAt.row ?_ (by first | with_reducible assumption | omega | (simp; done) | (simp; omega))) | with_reducible refine BoxAt.alloc ?_ _ | with_reducible refine BoxAt.drew ?_ | with_reducible refine BoxAt.below ?_ hb20)
                · show BoxAt _ _ _ _
                  repeat' (first | (with_reducible refine BoxAt.newAt _ _ _ _ (by (simp; done))) | with_reducible refine BoxAt.putAny #[.int .i64 0, .int .i64 0, .int .i64 0, .bool false, .int .i64 0] ?_ rfl | (with_reducible refine BoxAt.row ?_ (by first | with_reducible assumption | omega | (simp; done) | (simp; omega))) | with_reducible refine BoxAt.alloc ?_ _ | with_reducible refine BoxAt.drew ?_ | with_reducible refine BoxAt.below ?_ hb20)
                · show OwnI _ _ _ _
                  have hO21 := OwnI.mono hO20 (base' := wr.heap.size) (by first | omega | (simp; done))
                  refine OwnI.mono (base := wr.heap.size) ?_ (by omega)
                  repeat' (first | with_reducible exact hO21 | (with_reducible refine OwnI.rowHi hO21 ?_ (by omega)) | (with_reducible refine OwnI.row ?_ (by first | omega | (simp; done) | (simp; omega))) | with_reducible refine OwnI.other ?_ _ _ (by first | with_reducible assumption | (simp; done) | (simp; omega)) | with_reducible refine OwnI.alloc ?_ _ | with_reducible refine OwnI.drew ?_)
              refine AllReadyH.cons (o := ⟨some 5, _, _, _, _, _⟩) rfl (fun K hK => ?_) ?_
              · go_simp
                refine hK.out _ _ ?_ (fun hS' => ?_)
                · (refine ⟨?_, ?_, ?_, ?_⟩ <;> (repeat (first | with_reducible exact hS.1 | with_reducible exact hS.2.1 | with_reducible exact hS.2.2.1 | with_reducible exact hS.2.2.2 | with_reducible assumption | with_reducible refine cell_keep ?_ _ | with_reducible refine cell_drew ?_ | with_reducible refine cell_row hneP ?_ | with_reducible refine cell_row hneG ?_ | with_reducible refine cell_row hneP1 ?_ | with_reducible refine cell_row hneG1 ?_ | with_reducible refine cell_row (by omega) ?_ | refine keepc hb20 ?_)))
                clear hK K hS
                have hS := hS'
                clear hS'
                try simp only [Act.put, List.setIfInBounds_toArray, List.set_cons_zero, List.set_cons_succ]
                refine wpAnyH_ready (rs := [10, 17]) (by kernel_rfl) (by simp) ?_
                refine AllReadyH.cons (o := ⟨some 41, _, _, _, _, _⟩) rfl (fun K hK => ?_) ?_
                · go_simp
                  refine (HT.out _ (HXc.out.below (by go_grown))).mono ?_
                  rintro e w20 ⟨f', c', rfl, hO20, hb20⟩
                  have hsz20 := hb20.size
                  simp at hsz20
                  refine hK.out _ _ ?_ (fun hS' => ?_)
                  · (refine ⟨?_, ?_, ?_, ?_⟩ <;> (repeat (first | with_reducible exact hS.1 | with_reducible exact hS.2.1 | with_reducible exact hS.2.2.1 | with_reducible exact hS.2.2.2 | with_reducible assumption | with_reducible refine cell_keep ?_ _ | with_reducible refine cell_drew ?_ | with_reducible refine cell_row hneP ?_ | with_reducible refine cell_row hneG ?_ | with_reducible refine cell_row hneP1 ?_ | with_reducible refine cell_row hneG1 ?_ | with_reducible refine cell_row (by omega) ?_ | refine keepc hb20 ?_)))
                  clear hK K hS
                  have hS := hS'
                  clear hS'
                  try simp only [Act.put, List.setIfInBounds_toArray, List.set_cons_zero, List.set_cons_succ]
                  refine wpAnyH_take (i := 11) (oi := ⟨some 30, _, _, _, _, _⟩) (v := ?_) rfl (by kernel_rfl) (by kernel_rfl) (by kernel_rfl) (fun _ _ _ h => h) (Or.inl ⟨by rfl, ?_⟩) hS ?_
                  rotate_left
                  · (intro w' hSw; obtain ⟨s1, s2, s3, s4⟩ := hSw; go_simp; try with_reducible rfl)
                  simp only [Act.put, List.setIfInBounds_toArray, List.set_cons_zero, List.set_cons_succ]
                  refine wpAnyH_take (i := 12) (oi := ⟨some 42, _, _, _, _, _⟩) (v := ?_) rfl (by kernel_rfl) (by kernel_rfl) (by kernel_rfl) (fun _ _ _ h => h) (Or.inl ⟨by rfl, ?_⟩) hS ?_
                  rotate_left
                  · (intro w' hSw; obtain ⟨s1, s2, s3, s4⟩ := hSw; go_simp; try with_reducible rfl)
                  simp only [Act.put, List.setIfInBounds_toArray, List.set_cons_zero, List.set_cons_succ]
                  refine wpAnyH_take (i := 13) (oi := ⟨some 43, _, _, _, _, _⟩) (v := ?_) rfl (by kernel_rfl) (by kernel_rfl) (by kernel_rfl) (fun _ _ _ h => h) (Or.inl ⟨by rfl, ?_⟩) hS ?_
                  rotate_left
                  · (intro w' hSw; obtain ⟨s1, s2, s3, s4⟩ := hSw; go_simp; try with_reducible rfl)
                  simp only [Act.put, List.setIfInBounds_toArray, List.set_cons_zero, List.set_cons_succ]
                  refine wpAnyH_take (i := 14) (oi := ⟨some 44, _, _, _, _, _⟩) (v := ?_) rfl (by kernel_rfl) (by kernel_rfl) (by kernel_rfl) (fun _ _ _ h => h) (Or.inl ⟨by rfl, ?_⟩) hS ?_
                  rotate_left
                  · (intro w' hSw; obtain ⟨s1, s2, s3, s4⟩ := hSw; go_simp; try with_reducible rfl)
                  simp only [Act.put, List.setIfInBounds_toArray, List.set_cons_zero, List.set_cons_succ]
                  refine wpAnyH_take (i := 15) (oi := ⟨some 45, _, _, _, _, _⟩) (v := ?_) rfl (by kernel_rfl) (by kernel_rfl) (by kernel_rfl) (fun _ _ _ h => h) (Or.inl ⟨by rfl, ?_⟩) hS ?_
                  rotate_left
                  · (intro w' hSw; obtain ⟨s1, s2, s3, s4⟩ := hSw; go_simp; try with_reducible rfl)
                  simp only [Act.put, List.setIfInBounds_toArray, List.set_cons_zero, List.set_cons_succ]
                  refine wpAnyH_ready (rs := [17]) (by kernel_rfl) (by simp) ?_
                  refine AllReadyH.cons (o := ⟨some 6, _, _, _, _, _⟩) rfl (fun K hK => ?_) AllReadyH.nil
                  go_simp
                  refine hK.out _ _ ?_ (fun hS' => ?_)
                  · (refine ⟨?_, ?_, ?_, ?_⟩ <;> (repeat (first | with_reducible exact hS.1 | with_reducible exact hS.2.1 | with_reducible exact hS.2.2.1 | with_reducible exact hS.2.2.2 | with_reducible assumption | with_reducible refine cell_keep ?_ _ | with_reducible refine cell_drew ?_ | with_reducible refine cell_row hneP ?_ | with_reducible refine cell_row hneG ?_ | with_reducible refine cell_row hneP1 ?_ | with_reducible refine cell_row hneG1 ?_ | with_reducible refine cell_row (by omega) ?_ | refine keepc hb20 ?_)))
                  clear hK K hS
                  have hS := hS'
                  clear hS'
                  try simp only [Act.put, List.setIfInBounds_toArray, List.set_cons_zero, List.set_cons_succ]
                  refine wpAnyH_ready (rs := [18]) (by kernel_rfl) (by simp) ?_
                  refine AllReadyH.cons (o := ⟨none, _, _, _, _, _⟩) rfl (fun K hK => ?_) AllReadyH.nil
                  refine step_storeB rfl 45 _ _ rfl _ _ #[.int .i64 0, .int .i64 0, .bool false, .bool false, .bool false, .bool false, .bool false, .int .i64 0, .int .i64 0] 45 rfl rfl (by kernel_rfl) rfl (by simp [Value.oneCell']) (by repeat' (first | (with_reducible refine BoxAt.newAt _ _ _ _ (by (simp; done))) | with_reducible refine BoxAt.putAny #[] ?_ rfl | (with_reducible refine BoxAt.row ?_ (by first | with_reducible assumption | omega | (simp; done) | (simp; omega))) | with_reducible refine BoxAt.alloc ?_ _ | with_reducible refine BoxAt.drew ?_ | with_reducible refine BoxAt.below ?_ hb20)) ?_
                  refine hK.out _ _ ?_ (fun hS' => ?_)
                  · (refine ⟨?_, ?_, ?_, ?_⟩ <;> (repeat (first | with_reducible exact hS.1 | with_reducible exact hS.2.1 | with_reducible exact hS.2.2.1 | with_reducible exact hS.2.2.2 | with_reducible assumption | with_reducible refine cell_keep ?_ _ | with_reducible refine cell_drew ?_ | with_reducible refine cell_row hneP ?_ | with_reducible refine cell_row hneG ?_ | with_reducible refine cell_row hneP1 ?_ | with_reducible refine cell_row hneG1 ?_ | with_reducible refine cell_row (by omega) ?_ | refine keepc hb20 ?_)))
                  clear hK K hS
                  have hS := hS'
                  clear hS'
                  try simp only [Act.put]
                  refine wpAnyH_ready (rs := [19]) (by kernel_rfl) (by simp) ?_
                  refine AllReadyH.cons (o := ⟨none, _, _, _, _, _⟩) rfl (fun K hK => ?_) AllReadyH.nil
                  refine step_storeB rfl 47 _ _ rfl _ _ #[.int .i64 0, .int .i64 0, .int .i64 0, .bool false, .int .i64 0] 47 rfl rfl (by kernel_rfl) rfl (by simp [Value.oneCell']) (by repeat' (first | (with_reducible refine BoxAt.newAt _ _ _ _ (by (simp; done))) | with_reducible refine BoxAt.putAny #[] ?_ rfl | (with_reducible refine BoxAt.row ?_ (by first | with_reducible assumption | omega | (simp; done) | (simp; omega))) | with_reducible refine BoxAt.alloc ?_ _ | with_reducible refine BoxAt.drew ?_ | with_reducible refine BoxAt.below ?_ hb20)) ?_
                  refine hK.out _ _ ?_ (fun hS' => ?_)
                  · (refine ⟨?_, ?_, ?_, ?_⟩ <;> (repeat (first | with_reducible exact hS.1 | with_reducible exact hS.2.1 | with_reducible exact hS.2.2.1 | with_reducible exact hS.2.2.2 | with_reducible assumption | with_reducible refine cell_keep ?_ _ | with_reducible refine cell_drew ?_ | with_reducible refine cell_row hneP ?_ | with_reducible refine cell_row hneG ?_ | with_reducible refine cell_row hneP1 ?_ | with_reducible refine cell_row hneG1 ?_ | with_reducible refine cell_row (by omega) ?_ | refine keepc hb20 ?_)))
                  clear hK K hS
                  have hS := hS'
                  clear hS'
                  try simp only [Act.put]
                  refine wpAnyH_take (i := 20) (oi := ⟨some 7, _, _, _, _, _⟩) (v := ?_) rfl (by kernel_rfl) (by kernel_rfl) (by kernel_rfl) (fun _ _ _ h => h) (Or.inl ⟨by rfl, ?_⟩) hS ?_
                  rotate_left
                  · (intro w' hSw; obtain ⟨s1, s2, s3, s4⟩ := hSw; go_simp; try with_reducible rfl)
                  simp only [Act.put, List.setIfInBounds_toArray, List.set_cons_zero, List.set_cons_succ]
                  refine wpAnyH_take (i := 21) (oi := ⟨some 8, _, _, _, _, _⟩) (v := ?_) rfl (by kernel_rfl) (by kernel_rfl) (by kernel_rfl) (fun _ _ _ h => h) (Or.inl ⟨by rfl, ?_⟩) hS ?_
                  rotate_left
                  · (intro w' hSw; obtain ⟨s1, s2, s3, s4⟩ := hSw; go_simp; try with_reducible rfl)
                  simp only [Act.put, List.setIfInBounds_toArray, List.set_cons_zero, List.set_cons_succ]
                  refine wpAnyH_done (by kernel_rfl) ?_ _
                  show KK _ _
                  refine hKK _ _ (Met.intro (hJJ _ _ ?_))
                  (repeat apply Exists.intro)
                  refine ⟨?_, rfl⟩
                  refine ⟨wr.heap.size, w20.heap.size, f', c', rfl, rfl, rfl, rfl, (by omega), (by omega), (by first | omega | (simp; done)), ?_, ?_, ?_, ?_⟩
                  · show Below _ _ _
                    repeat' (first | with_reducible exact Below.refl wr.heap.size wr | (with_reducible refine Below.rowB ?_ (by first | omega | (simp; done) | (simp; omega))) | with_reducible refine Below.setCell ?_ (by first | omega | (simp; done) | (simp; omega)) _ | with_reducible refine bel_alloc ?_ _ | with_reducible refine Below.drew ?_ | with_reducible refine bel_trans ?_ hb20)
                  · show BoxAt _ _ _ _
                    repeat' (first | (with_reducible refine BoxAt.newAt _ _ _ _ (by (simp; done))) | with_reducible refine BoxAt.putAny #[.int .i64 0, .int .i64 0, .bool false, .bool false, .bool false, .bool false, .bool false, .int .i64 0, .int .i64 0] ?_ rfl | (with_reducible refine BoxAt.row ?_ (by first | with_reducible assumption | omega | (simp; done) | (simp; omega))) | with_reducible refine BoxAt.alloc ?_ _ | with_reducible refine BoxAt.drew ?_ | with_reducible refine BoxAt.below ?_ hb20)
                  · show BoxAt _ _ _ _
                    repeat' (first | (with_reducible refine BoxAt.newAt _ _ _ _ (by (simp; done))) | with_reducible refine BoxAt.putAny #[.int .i64 0, .int .i64 0, .int .i64 0, .bool false, .int .i64 0] ?_ rfl | (with_reducible refine BoxAt.row ?_ (by first | with_reducible assumption | omega | (simp; done) | (simp; omega))) | with_reducible refine BoxAt.alloc ?_ _ | with_reducible refine BoxAt.drew ?_ | with_reducible refine BoxAt.below ?_ hb20)
                  · show OwnI _ _ _ _
                    have hO21 := OwnI.mono hO20 (base' := wr.heap.size + 1) (by first | omega | (simp; done))
                    refine OwnI.mono (base := wr.heap.size + 1) ?_ (by omega)
                    repeat' (first | with_reducible exact hO21 | (with_reducible refine OwnI.rowHi hO21 ?_ (by omega)) | (with_reducible refine OwnI.row ?_ (by first | omega | (simp; done) | (simp; omega))) | with_reducible refine OwnI.other ?_ _ _ (by first | with_reducible assumption | (simp; done) | (simp; omega)) | with_reducible refine OwnI.alloc ?_ _ | with_reducible refine OwnI.drew ?_)
                refine AllReadyH.cons (o := ⟨some 6, _, _, _, _, _⟩) rfl (fun K hK => ?_) AllReadyH.nil
                go_simp
                refine hK.out _ _ ?_ (fun hS' => ?_)
                · (refine ⟨?_, ?_, ?_, ?_⟩ <;> (repeat (first | with_reducible exact hS.1 | with_reducible exact hS.2.1 | with_reducible exact hS.2.2.1 | with_reducible exact hS.2.2.2 | with_reducible assumption | with_reducible refine cell_keep ?_ _ | with_reducible refine cell_drew ?_ | with_reducible refine cell_row hneP ?_ | with_reducible refine cell_row hneG ?_ | with_reducible refine cell_row hneP1 ?_ | with_reducible refine cell_row hneG1 ?_ | with_reducible refine cell_row (by omega) ?_ | refine keepc hb20 ?_)))
                clear hK K hS
                have hS := hS'
                clear hS'
                try simp only [Act.put, List.setIfInBounds_toArray, List.set_cons_zero, List.set_cons_succ]
                refine wpAnyH_ready (rs := [10]) (by kernel_rfl) (by simp) ?_
                refine AllReadyH.cons (o := ⟨some 41, _, _, _, _, _⟩) rfl (fun K hK => ?_) AllReadyH.nil
                go_simp
                refine (HT.out _ (HXc.out.below (by go_grown))).mono ?_
                rintro e w20 ⟨f', c', rfl, hO20, hb20⟩
                have hsz20 := hb20.size
                simp at hsz20
                refine hK.out _ _ ?_ (fun hS' => ?_)
                · (refine ⟨?_, ?_, ?_, ?_⟩ <;> (repeat (first | with_reducible exact hS.1 | with_reducible exact hS.2.1 | with_reducible exact hS.2.2.1 | with_reducible exact hS.2.2.2 | with_reducible assumption | with_reducible refine cell_keep ?_ _ | with_reducible refine cell_drew ?_ | with_reducible refine cell_row hneP ?_ | with_reducible refine cell_row hneG ?_ | with_reducible refine cell_row hneP1 ?_ | with_reducible refine cell_row hneG1 ?_ | with_reducible refine cell_row (by omega) ?_ | refine keepc hb20 ?_)))
                clear hK K hS
                have hS := hS'
                clear hS'
                try simp only [Act.put, List.setIfInBounds_toArray, List.set_cons_zero, List.set_cons_succ]
                refine wpAnyH_take (i := 11) (oi := ⟨some 30, _, _, _, _, _⟩) (v := ?_) rfl (by kernel_rfl) (by kernel_rfl) (by kernel_rfl) (fun _ _ _ h => h) (Or.inl ⟨by rfl, ?_⟩) hS ?_
                rotate_left
                · (intro w' hSw; obtain ⟨s1, s2, s3, s4⟩ := hSw; go_simp; try with_reducible rfl)
                simp only [Act.put, List.setIfInBounds_toArray, List.set_cons_zero, List.set_cons_succ]
                refine wpAnyH_take (i := 12) (oi := ⟨some 42, _, _, _, _, _⟩) (v := ?_) rfl (by kernel_rfl) (by kernel_rfl) (by kernel_rfl) (fun _ _ _ h => h) (Or.inl ⟨by rfl, ?_⟩) hS ?_
                rotate_left
                · (intro w' hSw; obtain ⟨s1, s2, s3, s4⟩ := hSw; go_simp; try with_reducible rfl)
                simp only [Act.put, List.setIfInBounds_toArray, List.set_cons_zero, List.set_cons_succ]
                refine wpAnyH_take (i := 13) (oi := ⟨some 43, _, _, _, _, _⟩) (v := ?_) rfl (by kernel_rfl) (by kernel_rfl) (by kernel_rfl) (fun _ _ _ h => h) (Or.inl ⟨by rfl, ?_⟩) hS ?_
                rotate_left
                · (intro w' hSw; obtain ⟨s1, s2, s3, s4⟩ := hSw; go_simp; try with_reducible rfl)
                simp only [Act.put, List.setIfInBounds_toArray, List.set_cons_zero, List.set_cons_succ]
                refine wpAnyH_take (i := 14) (oi := ⟨some 44, _, _, _, _, _⟩) (v := ?_) rfl (by kernel_rfl) (by kernel_rfl) (by kernel_rfl) (fun _ _ _ h => h) (Or.inl ⟨by rfl, ?_⟩) hS ?_
                rotate_left
                · (intro w' hSw; obtain ⟨s1, s2, s3, s4⟩ := hSw; go_simp; try with_reducible rfl)
                simp only [Act.put, List.setIfInBounds_toArray, List.set_cons_zero, List.set_cons_succ]
                refine wpAnyH_take (i := 15) (oi := ⟨some 45, _, _, _, _, _⟩) (v := ?_) rfl (by kernel_rfl) (by kernel_rfl) (by kernel_rfl) (fun _ _ _ h => h) (Or.inl ⟨by rfl, ?_⟩) hS ?_
                rotate_left
                · (intro w' hSw; obtain ⟨s1, s2, s3, s4⟩ := hSw; go_simp; try with_reducible rfl)
                simp only [Act.put, List.setIfInBounds_toArray, List.set_cons_zero, List.set_cons_succ]
                refine wpAnyH_ready (rs := [18]) (by kernel_rfl) (by simp) ?_
                refine AllReadyH.cons (o := ⟨none, _, _, _, _, _⟩) rfl (fun K hK => ?_) AllReadyH.nil
                refine step_storeB rfl 45 _ _ rfl _ _ #[.int .i64 0, .int .i64 0, .bool false, .bool false, .bool false, .bool false, .bool false, .int .i64 0, .int .i64 0] 45 rfl rfl (by kernel_rfl) rfl (by simp [Value.oneCell']) (by repeat' (first | (with_reducible refine BoxAt.newAt _ _ _ _ (by (simp; done))) | with_reducible refine BoxAt.putAny #[] ?_ rfl | (with_reducible refine BoxAt.row ?_ (by first | with_reducible assumption | omega | (simp; done) | (simp; omega))) | with_reducible refine BoxAt.alloc ?_ _ | with_reducible refine BoxAt.drew ?_ | with_reducible refine BoxAt.below ?_ hb20)) ?_
                refine hK.out _ _ ?_ (fun hS' => ?_)
                · (refine ⟨?_, ?_, ?_, ?_⟩ <;> (repeat (first | with_reducible exact hS.1 | with_reducible exact hS.2.1 | with_reducible exact hS.2.2.1 | with_reducible exact hS.2.2.2 | with_reducible assumption | with_reducible refine cell_keep ?_ _ | with_reducible refine cell_drew ?_ | with_reducible refine cell_row hneP ?_ | with_reducible refine cell_row hneG ?_ | with_reducible refine cell_row hneP1 ?_ | with_reducible refine cell_row hneG1 ?_ | with_reducible refine cell_row (by omega) ?_ | refine keepc hb20 ?_)))
                clear hK K hS
                have hS := hS'
                clear hS'
                try simp only [Act.put]
                refine wpAnyH_ready (rs := [19]) (by kernel_rfl) (by simp) ?_
                refine AllReadyH.cons (o := ⟨none, _, _, _, _, _⟩) rfl (fun K hK => ?_) AllReadyH.nil
                refine step_storeB rfl 47 _ _ rfl _ _ #[.int .i64 0, .int .i64 0, .int .i64 0, .bool false, .int .i64 0] 47 rfl rfl (by kernel_rfl) rfl (by simp [Value.oneCell']) (by repeat' (first | (with_reducible refine BoxAt.newAt _ _ _ _ (by (simp; done))) | with_reducible refine BoxAt.putAny #[] ?_ rfl | (with_reducible refine BoxAt.row ?_ (by first | with_reducible assumption | omega | (simp; done) | (simp; omega))) | with_reducible refine BoxAt.alloc ?_ _ | with_reducible refine BoxAt.drew ?_ | with_reducible refine BoxAt.below ?_ hb20)) ?_
                refine hK.out _ _ ?_ (fun hS' => ?_)
                · (refine ⟨?_, ?_, ?_, ?_⟩ <;> (repeat (first | with_reducible exact hS.1 | with_reducible exact hS.2.1 | with_reducible exact hS.2.2.1 | with_reducible exact hS.2.2.2 | with_reducible assumption | with_reducible refine cell_keep ?_ _ | with_reducible refine cell_drew ?_ | with_reducible refine cell_row hneP ?_ | with_reducible refine cell_row hneG ?_ | with_reducible refine cell_row hneP1 ?_ | with_reducible refine cell_row hneG1 ?_ | with_reducible refine cell_row (by omega) ?_ | refine keepc hb20 ?_)))
                clear hK K hS
                have hS := hS'
                clear hS'
                try simp only [Act.put]
                refine wpAnyH_take (i := 20) (oi := ⟨some 7, _, _, _, _, _⟩) (v := ?_) rfl (by kernel_rfl) (by kernel_rfl) (by kernel_rfl) (fun _ _ _ h => h) (Or.inl ⟨by rfl, ?_⟩) hS ?_
                rotate_left
                · (intro w' hSw; obtain ⟨s1, s2, s3, s4⟩ := hSw; go_simp; try with_reducible rfl)
                simp only [Act.put, List.setIfInBounds_toArray, List.set_cons_zero, List.set_cons_succ]
                refine wpAnyH_take (i := 21) (oi := ⟨some 8, _, _, _, _, _⟩) (v := ?_) rfl (by kernel_rfl) (by kernel_rfl) (by kernel_rfl) (fun _ _ _ h => h) (Or.inl ⟨by rfl, ?_⟩) hS ?_
                rotate_left
                · (intro w' hSw; obtain ⟨s1, s2, s3, s4⟩ := hSw; go_simp; try with_reducible rfl)
                simp only [Act.put, List.setIfInBounds_toArray, List.set_cons_zero, List.set_cons_succ]
                refine wpAnyH_done (by kernel_rfl) ?_ _
                show KK _ _
                refine hKK _ _ (Met.intro (hJJ _ _ ?_))
                (repeat apply Exists.intro)
                refine ⟨?_, rfl⟩
                refine ⟨wr.heap.size, wr.heap.size + 1, f', c', rfl, rfl, rfl, rfl, (by omega), (by omega), (by first | omega | (simp; done)), ?_, ?_, ?_, ?_⟩
                · show Below _ _ _
                  repeat' (first | with_reducible exact Below.refl wr.heap.size wr | (with_reducible refine Below.rowB ?_ (by first | omega | (simp; done) | (simp; omega))) | with_reducible refine Below.setCell ?_ (by first | omega | (simp; done) | (simp; omega)) _ | with_reducible refine bel_alloc ?_ _ | with_reducible refine Below.drew ?_ | with_reducible refine bel_trans ?_ hb20)
                · show BoxAt _ _ _ _
                  repeat' (first | (with_reducible refine BoxAt.newAt _ _ _ _ (by (simp; done))) | with_reducible refine BoxAt.putAny #[.int .i64 0, .int .i64 0, .bool false, .bool false, .bool false, .bool false, .bool false, .int .i64 0, .int .i64 0] ?_ rfl | (with_reducible refine BoxAt.row ?_ (by first | with_reducible assumption | omega | (simp; done) | (simp; omega))) | with_reducible refine BoxAt.alloc ?_ _ | with_reducible refine BoxAt.drew ?_ | with_reducible refine BoxAt.below ?_ hb20)
                · show BoxAt _ _ _ _
                  repeat' (first | (with_reducible refine BoxAt.newAt _ _ _ _ (by (simp; done))) | with_reducible refine BoxAt.putAny #[.int .i64 0, .int .i64 0, .int .i64 0, .bool false, .int .i64 0] ?_ rfl | (with_reducible refine BoxAt.row ?_ (by first | with_reducible assumption | omega | (simp; done) | (simp; omega))) | with_reducible refine BoxAt.alloc ?_ _ | with_reducible refine BoxAt.drew ?_ | with_reducible refine BoxAt.below ?_ hb20)
                · show OwnI _ _ _ _
                  have hO21 := OwnI.mono hO20 (base' := wr.heap.size + 1 + 1) (by first | omega | (simp; done))
                  refine OwnI.mono (base := wr.heap.size + 1 + 1) ?_ (by omega)
                  repeat' (first | with_reducible exact hO21 | (with_reducible refine OwnI.rowHi hO21 ?_ (by omega)) | (with_reducible refine OwnI.row ?_ (by first | omega | (simp; done) | (simp; omega))) | with_reducible refine OwnI.other ?_ _ _ (by first | with_reducible assumption | (simp; done) | (simp; omega)) | with_reducible refine OwnI.alloc ?_ _ | with_reducible refine OwnI.drew ?_)
              refine AllReadyH.cons (o := ⟨some 6, _, _, _, _, _⟩) rfl (fun K hK => ?_) AllReadyH.nil
              go_simp
              refine hK.out _ _ ?_ (fun hS' => ?_)
              · (refine ⟨?_, ?_, ?_, ?_⟩ <;> (repeat (first | with_reducible exact hS.1 | with_reducible exact hS.2.1 | with_reducible exact hS.2.2.1 | with_reducible exact hS.2.2.2 | with_reducible assumption | with_reducible refine cell_keep ?_ _ | with_reducible refine cell_drew ?_ | with_reducible refine cell_row hneP ?_ | with_reducible refine cell_row hneG ?_ | with_reducible refine cell_row hneP1 ?_ | with_reducible refine cell_row hneG1 ?_ | with_reducible refine cell_row (by omega) ?_ | refine keepc hb20 ?_)))
              clear hK K hS
              have hS := hS'
              clear hS'
              try simp only [Act.put, List.setIfInBounds_toArray, List.set_cons_zero, List.set_cons_succ]
              refine wpAnyH_ready (rs := [10, 16]) (by kernel_rfl) (by simp) ?_
              refine AllReadyH.cons (o := ⟨some 41, _, _, _, _, _⟩) rfl (fun K hK => ?_) ?_
              · go_simp
                refine (HT.out _ (HXc.out.below (by go_grown))).mono ?_
                rintro e w20 ⟨f', c', rfl, hO20, hb20⟩
                have hsz20 := hb20.size
                simp at hsz20
                refine hK.out _ _ ?_ (fun hS' => ?_)
                · (refine ⟨?_, ?_, ?_, ?_⟩ <;> (repeat (first | with_reducible exact hS.1 | with_reducible exact hS.2.1 | with_reducible exact hS.2.2.1 | with_reducible exact hS.2.2.2 | with_reducible assumption | with_reducible refine cell_keep ?_ _ | with_reducible refine cell_drew ?_ | with_reducible refine cell_row hneP ?_ | with_reducible refine cell_row hneG ?_ | with_reducible refine cell_row hneP1 ?_ | with_reducible refine cell_row hneG1 ?_ | with_reducible refine cell_row (by omega) ?_ | refine keepc hb20 ?_)))
                clear hK K hS
                have hS := hS'
                clear hS'
                try simp only [Act.put, List.setIfInBounds_toArray, List.set_cons_zero, List.set_cons_succ]
                refine wpAnyH_take (i := 11) (oi := ⟨some 30, _, _, _, _, _⟩) (v := ?_) rfl (by kernel_rfl) (by kernel_rfl) (by kernel_rfl) (fun _ _ _ h => h) (Or.inl ⟨by rfl, ?_⟩) hS ?_
                rotate_left
                · (intro w' hSw; obtain ⟨s1, s2, s3, s4⟩ := hSw; go_simp; try with_reducible rfl)
                simp only [Act.put, List.setIfInBounds_toArray, List.set_cons_zero, List.set_cons_succ]
                refine wpAnyH_take (i := 12) (oi := ⟨some 42, _, _, _, _, _⟩) (v := ?_) rfl (by kernel_rfl) (by kernel_rfl) (by kernel_rfl) (fun _ _ _ h => h) (Or.inl ⟨by rfl, ?_⟩) hS ?_
                rotate_left
                · (intro w' hSw; obtain ⟨s1, s2, s3, s4⟩ := hSw; go_simp; try with_reducible rfl)
                simp only [Act.put, List.setIfInBounds_toArray, List.set_cons_zero, List.set_cons_succ]
                refine wpAnyH_take (i := 13) (oi := ⟨some 43, _, _, _, _, _⟩) (v := ?_) rfl (by kernel_rfl) (by kernel_rfl) (by kernel_rfl) (fun _ _ _ h => h) (Or.inl ⟨by rfl, ?_⟩) hS ?_
                rotate_left
                · (intro w' hSw; obtain ⟨s1, s2, s3, s4⟩ := hSw; go_simp; try with_reducible rfl)
                simp only [Act.put, List.setIfInBounds_toArray, List.set_cons_zero, List.set_cons_succ]
                refine wpAnyH_take (i := 14) (oi := ⟨some 44, _, _, _, _, _⟩) (v := ?_) rfl (by kernel_rfl) (by kernel_rfl) (by kernel_rfl) (fun _ _ _ h => h) (Or.inl ⟨by rfl, ?_⟩) hS ?_
                rotate_left
                · (intro w' hSw; obtain ⟨s1, s2, s3, s4⟩ := hSw; go_simp; try with_reducible rfl)
                simp only [Act.put, List.setIfInBounds_toArray, List.set_cons_zero, List.set_cons_succ]
                refine wpAnyH_take (i := 15) (oi := ⟨some 45, _, _, _, _, _⟩) (v := ?_) rfl (by kernel_rfl) (by kernel_rfl) (by kernel_rfl) (fun _ _ _ h => h) (Or.inl ⟨by rfl, ?_⟩) hS ?_
                rotate_left
                · (intro w' hSw; obtain ⟨s1, s2, s3, s4⟩ := hSw; go_simp; try with_reducible rfl)
                simp only [Act.put, List.setIfInBounds_toArray, List.set_cons_zero, List.set_cons_succ]
                refine wpAnyH_ready (rs := [16]) (by kernel_rfl) (by simp) ?_
                refine AllReadyH.cons (o := ⟨some 5, _, _, _, _, _⟩) rfl (fun K hK => ?_) AllReadyH.nil
                go_simp
                refine hK.out _ _ ?_ (fun hS' => ?_)
                · (refine ⟨?_, ?_, ?_, ?_⟩ <;> (repeat (first | with_reducible exact hS.1 | with_reducible exact hS.2.1 | with_reducible exact hS.2.2.1 | with_reducible exact hS.2.2.2 | with_reducible assumption | with_reducible refine cell_keep ?_ _ | with_reducible refine cell_drew ?_ | with_reducible refine cell_row hneP ?_ | with_reducible refine cell_row hneG ?_ | with_reducible refine cell_row hneP1 ?_ | with_reducible refine cell_row hneG1 ?_ | with_reducible refine cell_row (by omega) ?_ | refine keepc hb20 ?_)))
                clear hK K hS
                have hS := hS'
                clear hS'
                try simp only [Act.put, List.setIfInBounds_toArray, List.set_cons_zero, List.set_cons_succ]
                refine wpAnyH_ready (rs := [18]) (by kernel_rfl) (by simp) ?_
                refine AllReadyH.cons (o := ⟨none, _, _, _, _, _⟩) rfl (fun K hK => ?_) AllReadyH.nil
                refine step_storeB rfl 45 _ _ rfl _ _ #[.int .i64 0, .int .i64 0, .bool false, .bool false, .bool false, .bool false, .bool false, .int .i64 0, .int .i64 0] 45 rfl rfl (by kernel_rfl) rfl (by simp [Value.oneCell']) (by repeat' (first | (with_reducible refine BoxAt.newAt _ _ _ _ (by (simp; done))) | with_reducible refine BoxAt.putAny #[] ?_ rfl | (with_reducible refine BoxAt.row ?_ (by first | with_reducible assumption | omega | (simp; done) | (simp; omega))) | with_reducible refine BoxAt.alloc ?_ _ | with_reducible refine BoxAt.drew ?_ | with_reducible refine BoxAt.below ?_ hb20)) ?_
                refine hK.out _ _ ?_ (fun hS' => ?_)
                · (refine ⟨?_, ?_, ?_, ?_⟩ <;> (repeat (first | with_reducible exact hS.1 | with_reducible exact hS.2.1 | with_reducible exact hS.2.2.1 | with_reducible exact hS.2.2.2 | with_reducible assumption | with_reducible refine cell_keep ?_ _ | with_reducible refine cell_drew ?_ | with_reducible refine cell_row hneP ?_ | with_reducible refine cell_row hneG ?_ | with_reducible refine cell_row hneP1 ?_ | with_reducible refine cell_row hneG1 ?_ | with_reducible refine cell_row (by omega) ?_ | refine keepc hb20 ?_)))
                clear hK K hS
                have hS := hS'
                clear hS'
                try simp only [Act.put]
                refine wpAnyH_ready (rs := [19]) (by kernel_rfl) (by simp) ?_
                refine AllReadyH.cons (o := ⟨none, _, _, _, _, _⟩) rfl (fun K hK => ?_) AllReadyH.nil
                refine step_storeB rfl 47 _ _ rfl _ _ #[.int .i64 0, .int .i64 0, .int .i64 0, .bool false, .int .i64 0] 47 rfl rfl (by kernel_rfl) rfl (by simp [Value.oneCell']) (by repeat' (first | (with_reducible refine BoxAt.newAt _ _ _ _ (by (simp; done))) | with_reducible refine BoxAt.putAny #[] ?_ rfl | (with_reducible refine BoxAt.row ?_ (by first | with_reducible assumption | omega | (simp; done) | (simp; omega))) | with_reducible refine BoxAt.alloc ?_ _ | with_reducible refine BoxAt.drew ?_ | with_reducible refine BoxAt.below ?_ hb20)) ?_
                refine hK.out _ _ ?_ (fun hS' => ?_)
                · (refine ⟨?_, ?_, ?_, ?_⟩ <;> (repeat (first | with_reducible exact hS.1 | with_reducible exact hS.2.1 | with_reducible exact hS.2.2.1 | with_reducible exact hS.2.2.2 | with_reducible assumption | with_reducible refine cell_keep ?_ _ | with_reducible refine cell_drew ?_ | with_reducible refine cell_row hneP ?_ | with_reducible refine cell_row hneG ?_ | with_reducible refine cell_row hneP1 ?_ | with_reducible refine cell_row hneG1 ?_ | with_reducible refine cell_row (by omega) ?_ | refine keepc hb20 ?_)))
                clear hK K hS
                have hS := hS'
                clear hS'
                try simp only [Act.put]
                refine wpAnyH_take (i := 20) (oi := ⟨some 7, _, _, _, _, _⟩) (v := ?_) rfl (by kernel_rfl) (by kernel_rfl) (by kernel_rfl) (fun _ _ _ h => h) (Or.inl ⟨by rfl, ?_⟩) hS ?_
                rotate_left
                · (intro w' hSw; obtain ⟨s1, s2, s3, s4⟩ := hSw; go_simp; try with_reducible rfl)
                simp only [Act.put, List.setIfInBounds_toArray, List.set_cons_zero, List.set_cons_succ]
                refine wpAnyH_take (i := 21) (oi := ⟨some 8, _, _, _, _, _⟩) (v := ?_) rfl (by kernel_rfl) (by kernel_rfl) (by kernel_rfl) (fun _ _ _ h => h) (Or.inl ⟨by rfl, ?_⟩) hS ?_
                rotate_left
                · (intro w' hSw; obtain ⟨s1, s2, s3, s4⟩ := hSw; go_simp; try with_reducible rfl)
                simp only [Act.put, List.setIfInBounds_toArray, List.set_cons_zero, List.set_cons_succ]
                refine wpAnyH_done (by kernel_rfl) ?_ _
                show KK _ _
                refine hKK _ _ (Met.intro (hJJ _ _ ?_))
                (repeat apply Exists.intro)
                refine ⟨?_, rfl⟩
                refine ⟨w20.heap.size, wr.heap.size, f', c', rfl, rfl, rfl, rfl, (by omega), (by omega), (by first | omega | (simp; done)), ?_, ?_, ?_, ?_⟩
                · show Below _ _ _
                  repeat' (first | with_reducible exact Below.refl wr.heap.size wr | (with_reducible refine Below.rowB ?_ (by first | omega | (simp; done) | (simp; omega))) | with_reducible refine Below.setCell ?_ (by first | omega | (simp; done) | (simp; omega)) _ | with_reducible refine bel_alloc ?_ _ | with_reducible refine Below.drew ?_ | with_reducible refine bel_trans ?_ hb20)
                · show BoxAt _ _ _ _
                  repeat' (first | (with_reducible refine BoxAt.newAt _ _ _ _ (by (simp; done))) | with_reducible refine BoxAt.putAny #[.int .i64 0, .int .i64 0, .bool false, .bool false, .bool false, .bool false, .bool false, .int .i64 0, .int .i64 0] ?_ rfl | (with_reducible refine BoxAt.row ?_ (by first | with_reducible assumption | omega | (simp; done) | (simp; omega))) | with_reducible refine BoxAt.alloc ?_ _ | with_reducible refine BoxAt.drew ?_ | with_reducible refine BoxAt.below ?_ hb20)
                · show BoxAt _ _ _ _
                  repeat' (first | (with_reducible refine BoxAt.newAt _ _ _ _ (by (simp; done))) | with_reducible refine BoxAt.putAny #[.int .i64 0, .int .i64 0, .int .i64 0, .bool false, .int .i64 0] ?_ rfl | (with_reducible refine BoxAt.row ?_ (by first | with_reducible assumption | omega | (simp; done) | (simp; omega))) | with_reducible refine BoxAt.alloc ?_ _ | with_reducible refine BoxAt.drew ?_ | with_reducible refine BoxAt.below ?_ hb20)
                · show OwnI _ _ _ _
                  have hO21 := OwnI.mono hO20 (base' := wr.heap.size + 1) (by first | omega | (simp; done))
                  refine OwnI.mono (base := wr.heap.size + 1) ?_ (by omega)
                  repeat' (first | with_reducible exact hO21 | (with_reducible refine OwnI.rowHi hO21 ?_ (by omega)) | (with_reducible refine OwnI.row ?_ (by first | omega | (simp; done) | (simp; omega))) | with_reducible refine OwnI.other ?_ _ _ (by first | with_reducible assumption | (simp; done) | (simp; omega)) | with_reducible refine OwnI.alloc ?_ _ | with_reducible refine OwnI.drew ?_)
              refine AllReadyH.cons (o := ⟨some 5, _, _, _, _, _⟩) rfl (fun K hK => ?_) AllReadyH.nil
              go_simp
              refine hK.out _ _ ?_ (fun hS' => ?_)
              · (refine ⟨?_, ?_, ?_, ?_⟩ <;> (repeat (first | with_reducible exact hS.1 | with_reducible exact hS.2.1 | with_reducible exact hS.2.2.1 | with_reducible exact hS.2.2.2 | with_reducible assumption | with_reducible refine cell_keep ?_ _ | with_reducible refine cell_drew ?_ | with_reducible refine cell_row hneP ?_ | with_reducible refine cell_row hneG ?_ | with_reducible refine cell_row hneP1 ?_ | with_reducible refine cell_row hneG1 ?_ | with_reducible refine cell_row (by omega) ?_ | refine keepc hb20 ?_)))
              clear hK K hS
              have hS := hS'
              clear hS'
              try simp only [Act.put, List.setIfInBounds_toArray, List.set_cons_zero, List.set_cons_succ]
              refine wpAnyH_ready (rs := [10]) (by kernel_rfl) (by simp) ?_
              refine AllReadyH.cons (o := ⟨some 41, _, _, _, _, _⟩) rfl (fun K hK => ?_) AllReadyH.nil
              go_simp
              refine (HT.out _ (HXc.out.below (by go_grown))).mono ?_
              rintro e w20 ⟨f', c', rfl, hO20, hb20⟩
              have hsz20 := hb20.size
              simp at hsz20
              refine hK.out _ _ ?_ (fun hS' => ?_)
              · (refine ⟨?_, ?_, ?_, ?_⟩ <;> (repeat (first | with_reducible exact hS.1 | with_reducible exact hS.2.1 | with_reducible exact hS.2.2.1 | with_reducible exact hS.2.2.2 | with_reducible assumption | with_reducible refine cell_keep ?_ _ | with_reducible refine cell_drew ?_ | with_reducible refine cell_row hneP ?_ | with_reducible refine cell_row hneG ?_ | with_reducible refine cell_row hneP1 ?_ | with_reducible refine cell_row hneG1 ?_ | with_reducible refine cell_row (by omega) ?_ | refine keepc hb20 ?_)))
              clear hK K hS
              have hS := hS'
              clear hS'
              try simp only [Act.put, List.setIfInBounds_toArray, List.set_cons_zero, List.set_cons_succ]
              refine wpAnyH_take (i := 11) (oi := ⟨some 30, _, _, _, _, _⟩) (v := ?_) rfl (by kernel_rfl) (by kernel_rfl) (by kernel_rfl) (fun _ _ _ h => h) (Or.inl ⟨by rfl, ?_⟩) hS ?_
              rotate_left
              · (intro w' hSw; obtain ⟨s1, s2, s3, s4⟩ := hSw; go_simp; try with_reducible rfl)
              simp only [Act.put, List.setIfInBounds_toArray, List.set_cons_zero, List.set_cons_succ]
              refine wpAnyH_take (i := 12) (oi := ⟨some 42, _, _, _, _, _⟩) (v := ?_) rfl (by kernel_rfl) (by kernel_rfl) (by kernel_rfl) (fun _ _ _ h => h) (Or.inl ⟨by rfl, ?_⟩) hS ?_
              rotate_left
              · (intro w' hSw; obtain ⟨s1, s2, s3, s4⟩ := hSw; go_simp; try with_reducible rfl)
              simp only [Act.put, List.setIfInBounds_toArray, List.set_cons_zero, List.set_cons_succ]
              refine wpAnyH_take (i := 13) (oi := ⟨some 43, _, _, _, _, _⟩) (v := ?_) rfl (by kernel_rfl) (by kernel_rfl) (by kernel_rfl) (fun _ _ _ h => h) (Or.inl ⟨by rfl, ?_⟩) hS ?_
              rotate_left
              · (intro w' hSw; obtain ⟨s1, s2, s3, s4⟩ := hSw; go_simp; try with_reducible rfl)
              simp only [Act.put, List.setIfInBounds_toArray, List.set_cons_zero, List.set_cons_succ]
              refine wpAnyH_take (i := 14) (oi := ⟨some 44, _, _, _, _, _⟩) (v := ?_) rfl (by kernel_rfl) (by kernel_rfl) (by kernel_rfl) (fun _ _ _ h => h) (Or.inl ⟨by rfl, ?_⟩) hS ?_
              rotate_left
              · (intro w' hSw; obtain ⟨s1, s2, s3, s4⟩ := hSw; go_simp; try with_reducible rfl)
              simp only [Act.put, List.setIfInBounds_toArray, List.set_cons_zero, List.set_cons_succ]
              refine wpAnyH_take (i := 15) (oi := ⟨some 45, _, _, _, _, _⟩) (v := ?_) rfl (by kernel_rfl) (by kernel_rfl) (by kernel_rfl) (fun _ _ _ h => h) (Or.inl ⟨by rfl, ?_⟩) hS ?_
              rotate_left
              · (intro w' hSw; obtain ⟨s1, s2, s3, s4⟩ := hSw; go_simp; try with_reducible rfl)
              simp only [Act.put, List.setIfInBounds_toArray, List.set_cons_zero, List.set_cons_succ]
              refine wpAnyH_ready (rs := [18]) (by kernel_rfl) (by simp) ?_
              refine AllReadyH.cons (o := ⟨none, _, _, _, _, _⟩) rfl (fun K hK => ?_) AllReadyH.nil
              refine step_storeB rfl 45 _ _ rfl _ _ #[.int .i64 0, .int .i64 0, .bool false, .bool false, .bool false, .bool false, .bool false, .int .i64 0, .int .i64 0] 45 rfl rfl (by kernel_rfl) rfl (by simp [Value.oneCell']) (by repeat' (first | (with_reducible refine BoxAt.newAt _ _ _ _ (by (simp; done))) | with_reducible refine BoxAt.putAny #[] ?_ rfl | (with_reducible refine BoxAt.row ?_ (by first | with_reducible assumption | omega | (simp; done) | (simp; omega))) | with_reducible refine BoxAt.alloc ?_ _ | with_reducible refine BoxAt.drew ?_ | with_reducible refine BoxAt.below ?_ hb20)) ?_
              refine hK.out _ _ ?_ (fun hS' => ?_)
              · (refine ⟨?_, ?_, ?_, ?_⟩ <;> (repeat (first | with_reducible exact hS.1 | with_reducible exact hS.2.1 | with_reducible exact hS.2.2.1 | with_reducible exact hS.2.2.2 | with_reducible assumption | with_reducible refine cell_keep ?_ _ | with_reducible refine cell_drew ?_ | with_reducible refine cell_row hneP ?_ | with_reducible refine cell_row hneG ?_ | with_reducible refine cell_row hneP1 ?_ | with_reducible refine cell_row hneG1 ?_ | with_reducible refine cell_row (by omega) ?_ | refine keepc hb20 ?_)))
              clear hK K hS
              have hS := hS'
              clear hS'
              try simp only [Act.put]
              refine wpAnyH_ready (rs := [19]) (by kernel_rfl) (by simp) ?_
              refine AllReadyH.cons (o := ⟨none, _, _, _, _, _⟩) rfl (fun K hK => ?_) AllReadyH.nil
              refine step_storeB rfl 47 _ _ rfl _ _ #[.int .i64 0, .int .i64 0, .int .i64 0, .bool false, .int .i64 0] 47 rfl rfl (by kernel_rfl) rfl (by simp [Value.oneCell']) (by repeat' (first | (with_reducible refine BoxAt.newAt _ _ _ _ (by (simp; done))) | with_reducible refine BoxAt.putAny #[] ?_ rfl | (with_reducible refine BoxAt.row ?_ (by first | with_reducible assumption | omega | (simp; done) | (simp; omega))) | with_reducible refine BoxAt.alloc ?_ _ | with_reducible refine BoxAt.drew ?_ | with_reducible refine BoxAt.below ?_ hb20)) ?_
              refine hK.out _ _ ?_ (fun hS' => ?_)
              · (refine ⟨?_, ?_, ?_, ?_⟩ <;> (repeat (first | with_reducible exact hS.1 | with_reducible exact hS.2.1 | with_reducible exact hS.2.2.1 | with_reducible exact hS.2.2.2 | with_reducible assumption | with_reducible refine cell_keep ?_ _ | with_reducible refine cell_drew ?_ | with_reducible refine cell_row hneP ?_ | with_reducible refine cell_row hneG ?_ | with_reducible refine cell_row hneP1 ?_ | with_reducible refine cell_row hneG1 ?_ | with_reducible refine cell_row (by omega) ?_ | refine keepc hb20 ?_)))
              clear hK K hS
              have hS := hS'
              clear hS'
              try simp only [Act.put]
              refine wpAnyH_take (i := 20) (oi := ⟨some 7, _, _, _, _, _⟩) (v := ?_) rfl (by kernel_rfl) (by kernel_rfl) (by kernel_rfl) (fun _ _ _ h => h) (Or.inl ⟨by rfl, ?_⟩) hS ?_
              rotate_left
              · (intro w' hSw; obtain ⟨s1, s2, s3, s4⟩ := hSw; go_simp; try with_reducible rfl)
              simp only [Act.put, List.setIfInBounds_toArray, List.set_cons_zero, List.set_cons_succ]
              refine wpAnyH_take (i := 21) (oi := ⟨some 8, _, _, _, _, _⟩) (v := ?_) rfl (by kernel_rfl) (by kernel_rfl) (by kernel_rfl) (fun _ _ _ h => h) (Or.inl ⟨by rfl, ?_⟩) hS ?_
              rotate_left
              · (intro w' hSw; obtain ⟨s1, s2, s3, s4⟩ := hSw; go_simp; try with_reducible rfl)
              simp only [Act.put, List.setIfInBounds_toArray, List.set_cons_zero, List.set_cons_succ]
              refine wpAnyH_done (by kernel_rfl) ?_ _
              show KK _ _
              refine hKK _ _ (Met.intro (hJJ _ _ ?_))
              (repeat apply Exists.intro)
              refine ⟨?_, rfl⟩
              refine ⟨wr.heap.size + 1, wr.heap.size, f', c', rfl, rfl, rfl, rfl, (by omega), (by omega), (by first | omega | (simp; done)), ?_, ?_, ?_, ?_⟩
              · show Below _ _ _
                repeat' (first | with_reducible exact Below.refl wr.heap.size wr | (with_reducible refine Below.rowB ?_ (by first | omega | (simp; done) | (simp; omega))) | with_reducible refine Below.setCell ?_ (by first | omega | (simp; done) | (simp; omega)) _ | with_reducible refine bel_alloc ?_ _ | with_reducible refine Below.drew ?_ | with_reducible refine bel_trans ?_ hb20)
              · show BoxAt _ _ _ _
                repeat' (first | (with_reducible refine BoxAt.newAt _ _ _ _ (by (simp; done))) | with_reducible refine BoxAt.putAny #[.int .i64 0, .int .i64 0, .bool false, .bool false, .bool false, .bool false, .bool false, .int .i64 0, .int .i64 0] ?_ rfl | (with_reducible refine BoxAt.row ?_ (by first | with_reducible assumption | omega | (simp; done) | (simp; omega))) | with_reducible refine BoxAt.alloc ?_ _ | with_reducible refine BoxAt.drew ?_ | with_reducible refine BoxAt.below ?_ hb20)
              · show BoxAt _ _ _ _
                repeat' (first | (with_reducible refine BoxAt.newAt _ _ _ _ (by (simp; done))) | with_reducible refine BoxAt.putAny #[.int .i64 0, .int .i64 0, .int .i64 0, .bool false, .int .i64 0] ?_ rfl | (with_reducible refine BoxAt.row ?_ (by first | with_reducible assumption | omega | (simp; done) | (simp; omega))) | with_reducible refine BoxAt.alloc ?_ _ | with_reducible refine BoxAt.drew ?_ | with_reducible refine BoxAt.below ?_ hb20)
              · show OwnI _ _ _ _
                have hO21 := OwnI.mono hO20 (base' := wr.heap.size + 1 + 1) (by first | omega | (simp; done))
                refine OwnI.mono (base := wr.heap.size + 1 + 1) ?_ (by omega)
                repeat' (first | with_reducible exact hO21 | (with_reducible refine OwnI.rowHi hO21 ?_ (by omega)) | (with_reducible refine OwnI.row ?_ (by first | omega | (simp; done) | (simp; omega))) | with_reducible refine OwnI.other ?_ _ _ (by first | with_reducible assumption | (simp; done) | (simp; omega)) | with_reducible refine OwnI.alloc ?_ _ | with_reducible refine OwnI.drew ?_)
            case rest =>
              obtain ⟨bH, bF, f', c', rfl, rfl, rfl, rfl, hbH, hbF, hHF, HBx, H20, F20, O20⟩ := hcut
              obtain ⟨w20, rfl⟩ : ∃ w20 : World, w20 = wc := ⟨_, rfl⟩
              have hpk20 := Lib.hid (keepc HBx.out hpk2.out)
              have HX20 := Lib.hid (HXc.out.below HBx.out)
              have P20 := Lib.hid (X2.out.below HBx.out)
              have B20 := Lib.hid (bel_trans HB.out HBx.out)
              have hs20 : wr.heap.size ≤ w20.heap.size := HBx.out.size
              have hlH := H20.out.lt
              have hlF := F20.out.lt
              have O20k := O20
              clear HBx HB X2 hpk2 HXc Pc0 Pc1 Pc2 hpk3 HT
              have HPk := Lib.hid ((P20.out.alloc (.cells #[.int .i64 0, .int .i64 0, .bool false, .bool false, .bool false, .bool false, .bool false, .int .i64 0, .int .i64 0] 45)).alloc (.cells #[.int .i64 0, .int .i64 0, .int .i64 0, .bool false, .int .i64 0] 47))
              have pc0 := HPk.out.get 0 (.slice f l c) rfl
              go_wp2_with fail
              refine (HM.out _).mono ?_
              rintro e w21 ⟨rfl, hb21⟩
              have P22 := Lib.hid (((P20.out.alloc (.cells #[.int .i64 0, .int .i64 0, .bool false, .bool false, .bool false, .bool false, .bool false, .int .i64 0, .int .i64 0] 45)).alloc (.cells #[.int .i64 0, .int .i64 0, .int .i64 0, .bool false, .int .i64 0] 47)).below hb21)
              have H22 := Lib.hid (((H20.out.alloc (.cells #[.int .i64 0, .int .i64 0, .bool false, .bool false, .bool false, .bool false, .bool false, .int .i64 0, .int .i64 0] 45)).alloc (.cells #[.int .i64 0, .int .i64 0, .int .i64 0, .bool false, .int .i64 0] 47)).below hb21)
              have F22 := Lib.hid (((F20.out.alloc (.cells #[.int .i64 0, .int .i64 0, .bool false, .bool false, .bool false, .bool false, .bool false, .int .i64 0, .int .i64 0] 45)).alloc (.cells #[.int .i64 0, .int .i64 0, .int .i64 0, .bool false, .int .i64 0] 47)).below hb21)
              have X22 := Lib.hid (((BoxAt.newAt _ #[.int .i64 0, .int .i64 0, .bool false, .bool false, .bool false, .bool false, .bool false, .int .i64 0, .int .i64 0] 45 (w20.heap.size) (by first | rfl | (simp; done) | (simp; omega))).alloc (.cells #[.int .i64 0, .int .i64 0, .int .i64 0, .bool false, .int .i64 0] 47)).below hb21)
              have Y22 := Lib.hid ((BoxAt.newAt _ #[.int .i64 0, .int .i64 0, .int .i64 0, .bool false, .int .i64 0] 47 (w20.heap.size + 1) (by first | rfl | (simp; done) | (simp; omega))).below hb21)
              have O22 := Lib.hid (((O20.out.alloc (.cells #[.int .i64 0, .int .i64 0, .bool false, .bool false, .bool false, .bool false, .bool false, .int .i64 0, .int .i64 0] 45)).alloc (.cells #[.int .i64 0, .int .i64 0, .int .i64 0, .bool false, .int .i64 0] 47)).below hb21)
              have B22 := Lib.hid (bel_trans (bel_alloc (bel_alloc B20.out (.cells #[.int .i64 0, .int .i64 0, .bool false, .bool false, .bool false, .bool false, .bool false, .int .i64 0, .int .i64 0] 45)) (.cells #[.int .i64 0, .int .i64 0, .int .i64 0, .bool false, .int .i64 0] 47)) hb21)
              clear pc0
              clear P20 H20 F20 O20 B20 hb21
              clear HPk
              have Pc1 := P22.out.get 1 (.int .i64 fr) rfl
              go_wp2_with fail
              refine (HPF.out _).mono ?_
              rintro e w23 ⟨rfl, rfl⟩
              clear Pc1
              have Pc2 := P22.out.get 2 (.slice (some ⟨gb, go, none⟩) n d) rfl
              have hpk24 := keepc B22.out HPK.out
              go_wp2_with fail
              refine (HPG.out _).mono ?_
              rintro e w25 ⟨rfl, rfl⟩
              clear Pc2 hpk24
              have Pc0 := P22.out.get 0 (.slice f l c) rfl
              have Pc1 := P22.out.get 1 (.int .i64 fr) rfl
              have Pc2 := P22.out.get 2 (.slice (some ⟨gb, go, none⟩) n d) rfl
              have hpk26 := keepc B22.out HPK.out
              have HXz := Lib.hid (HX1.out.below B22.out)
              have hX0 := X22
              have hY0 := Y22
              have hcs : w20.heap.size + 1 + 1 ≤ w21.heap.size := by have := Y22.out.lt; omega
              have hzP : w.heap.size < w20.heap.size := by omega
              have hzG : gb < w20.heap.size := by omega
              go_upto_region 16 with fail
              go_cut [12] (fun s12 wx => ∃ (f2 : Option Addr) (c2 : Nat), s12 = .slice f2 R.length c2 ∧ Hid (Below w20.heap.size w21 wx) ∧ Hid (BoxAt wx (w20.heap.size) #[.int .i64 hf, .int .i64 hm', .bool hr, .bool hw, .bool hx, .bool ha, .bool hn, .int .i64 hs, .int .i64 hl] 45) ∧ Hid (BoxAt wx (w20.heap.size + 1) #[.int .i64 fk, .int .i64 fs, .int .i64 fl, .bool fw, .int .i64 fp] 47) ∧ Hid (OwnI wx w21.heap.size (.slice f2 R.length c2) R))
              case first =>
                rename_i JJ KK hJJ hKK
                refine wp_region_held_drew (S := (fun w' => w'.cell? ⟨w.heap.size, 0, none⟩ = some (.slice f l c) ∧ w'.cell? ⟨w.heap.size, 1, none⟩ = some (.int .i64 fr) ∧ w'.cell? ⟨w.heap.size, 2, none⟩ = some (.slice (some ⟨gb, go, none⟩) n d) ∧ w'.cell? ⟨gb, go + k, none⟩ = some (.int .i64 pg))) (by kernel_rfl) ?_ (fun hS => ?_)
                · (refine ⟨?_, ?_, ?_, ?_⟩ <;> (repeat (first | with_reducible exact hS.1 | with_reducible exact hS.2.1 | with_reducible exact hS.2.2.1 | with_reducible exact hS.2.2.2 | with_reducible assumption | with_reducible refine cell_drew ?_ | with_reducible refine cell_row (by omega) ?_ | refine keepc hb16 ?_)))
                refine wpAnyH_take (i := 0) (oi := ⟨some 67, _, _, _, _, _⟩) (v := ?_) rfl (by kernel_rfl) (by kernel_rfl) (by kernel_rfl) (fun _ _ _ h => h) (Or.inl ⟨by rfl, ?_⟩) hS ?_
                rotate_left
                · (intro w' hSw; obtain ⟨s1, s2, s3, s4⟩ := hSw; go_simp; try with_reducible rfl)
                simp only [Act.put, List.setIfInBounds_toArray, List.set_cons_zero, List.set_cons_succ]
                refine wpAnyH_take (i := 1) (oi := ⟨some 68, _, _, _, _, _⟩) (v := ?_) rfl (by kernel_rfl) (by kernel_rfl) (by kernel_rfl) (fun _ _ _ h => h) (Or.inl ⟨by rfl, ?_⟩) hS ?_
                rotate_left
                · (intro w' hSw; obtain ⟨s1, s2, s3, s4⟩ := hSw; go_simp; try with_reducible rfl)
                simp only [Act.put, List.setIfInBounds_toArray, List.set_cons_zero, List.set_cons_succ]
                refine wpAnyH_take (i := 2) (oi := ⟨some 69, _, _, _, _, _⟩) (v := ?_) rfl (by kernel_rfl) (by kernel_rfl) (by kernel_rfl) (fun _ _ _ h => h) (Or.inl ⟨by rfl, ?_⟩) hS ?_
                rotate_left
                · (intro w' hSw; obtain ⟨s1, s2, s3, s4⟩ := hSw; go_simp; try with_reducible rfl)
                simp only [Act.put, List.setIfInBounds_toArray, List.set_cons_zero, List.set_cons_succ]
                refine wpAnyH_take (i := 3) (oi := ⟨some 70, _, _, _, _, _⟩) (v := ?_) rfl (by kernel_rfl) (by kernel_rfl) (by kernel_rfl) (fun _ _ _ h => h) (Or.inl ⟨by rfl, ?_⟩) hS ?_
                rotate_left
                · (intro w' hSw; obtain ⟨s1, s2, s3, s4⟩ := hSw; go_simp; try with_reducible rfl)
                simp only [Act.put, List.setIfInBounds_toArray, List.set_cons_zero, List.set_cons_succ]
                refine wpAnyH_take (i := 4) (oi := ⟨some 71, _, _, _, _, _⟩) (v := ?_) rfl (by kernel_rfl) (by kernel_rfl) (by kernel_rfl) (fun _ _ _ h => h) (Or.inl ⟨by rfl, ?_⟩) hS ?_
                rotate_left
                · (intro w' hSw; obtain ⟨s1, s2, s3, s4⟩ := hSw; go_simp; try with_reducible rfl)
                simp only [Act.put, List.setIfInBounds_toArray, List.set_cons_zero, List.set_cons_succ]
                refine wpAnyH_take (i := 5) (oi := ⟨some 72, _, _, _, _, _⟩) (v := ?_) rfl (by kernel_rfl) (by kernel_rfl) (by kernel_rfl) (fun _ _ _ h => h) (Or.inl ⟨by rfl, ?_⟩) hS ?_
                rotate_left
                · (intro w' hSw; obtain ⟨s1, s2, s3, s4⟩ := hSw; go_simp; try with_reducible rfl)
                simp only [Act.put, List.setIfInBounds_toArray, List.set_cons_zero, List.set_cons_succ]
                refine wpAnyH_take (i := 6) (oi := ⟨some 73, _, _, _, _, _⟩) (v := ?_) rfl (by kernel_rfl) (by kernel_rfl) (by kernel_rfl) (fun _ _ _ h => h) (Or.inl ⟨by rfl, ?_⟩) hS ?_
                rotate_left
                · (intro w' hSw; obtain ⟨s1, s2, s3, s4⟩ := hSw; go_simp; try with_reducible rfl)
                simp only [Act.put, List.setIfInBounds_toArray, List.set_cons_zero, List.set_cons_succ]
                refine wpAnyH_take (i := 7) (oi := ⟨some 74, _, _, _, _, _⟩) (v := ?_) rfl (by kernel_rfl) (by kernel_rfl) (by kernel_rfl) (fun _ _ _ h => h) (Or.inl ⟨by rfl, ?_⟩) hS ?_
                rotate_left
                · (intro w' hSw; obtain ⟨s1, s2, s3, s4⟩ := hSw; go_simp; try with_reducible rfl)
                simp only [Act.put, List.setIfInBounds_toArray, List.set_cons_zero, List.set_cons_succ]
                refine wpAnyH_take (i := 8) (oi := ⟨some 75, _, _, _, _, _⟩) (v := ?_) rfl (by kernel_rfl) (by kernel_rfl) (by kernel_rfl) (fun _ _ _ h => h) (Or.inl ⟨by rfl, ?_⟩) hS ?_
                rotate_left
                · (intro w' hSw; obtain ⟨s1, s2, s3, s4⟩ := hSw; go_simp; try with_reducible rfl)
                simp only [Act.put, List.setIfInBounds_toArray, List.set_cons_zero, List.set_cons_succ]
                refine wpAnyH_take (i := 9) (oi := ⟨some 76, _, _, _, _, _⟩) (v := ?_) rfl (by kernel_rfl) (by kernel_rfl) (by kernel_rfl) (fun _ _ _ h => h) (Or.inl ⟨by rfl, ?_⟩) hS ?_
                rotate_left
                · (intro w' hSw; obtain ⟨s1, s2, s3, s4⟩ := hSw; go_simp; try with_reducible rfl)
                simp only [Act.put, List.setIfInBounds_toArray, List.set_cons_zero, List.set_cons_succ]
                refine wpAnyH_ready (rs := [10]) (by kernel_rfl) (by simp) ?_
                refine AllReadyH.cons (o := ⟨some 77, _, _, _, _, _⟩) rfl (fun K hK => ?_) AllReadyH.nil
                go_simp
                refine (HRR.out _ (HXz.out.below (by go_grown))).mono ?_
                rintro e w16 ⟨f2, c2, rfl, hO16, hb16⟩
                have hs16 := hb16.size
                simp at hs16
                refine hK.out _ _ ?_ (fun hS' => ?_)
                · (refine ⟨?_, ?_, ?_, ?_⟩ <;> (repeat (first | with_reducible exact hS.1 | with_reducible exact hS.2.1 | with_reducible exact hS.2.2.1 | with_reducible exact hS.2.2.2 | with_reducible assumption | with_reducible refine cell_drew ?_ | with_reducible refine cell_row (by omega) ?_ | refine keepc hb16 ?_)))
                clear hK K hS
                have hS := hS'
                clear hS'
                try simp only [Act.put, List.setIfInBounds_toArray, List.set_cons_zero, List.set_cons_succ]
                refine wpAnyH_take (i := 11) (oi := ⟨some 66, _, _, _, _, _⟩) (v := ?_) rfl (by kernel_rfl) (by kernel_rfl) (by kernel_rfl) (fun _ _ _ h => h) (Or.inl ⟨by rfl, ?_⟩) hS ?_
                rotate_left
                · (intro w' hSw; obtain ⟨s1, s2, s3, s4⟩ := hSw; go_simp; try with_reducible rfl)
                simp only [Act.put, List.setIfInBounds_toArray, List.set_cons_zero, List.set_cons_succ]
                refine wpAnyH_take (i := 12) (oi := ⟨some 78, _, _, _, _, _⟩) (v := ?_) rfl (by kernel_rfl) (by kernel_rfl) (by kernel_rfl) (fun _ _ _ h => h) (Or.inl ⟨by rfl, ?_⟩) hS ?_
                rotate_left
                · (intro w' hSw; obtain ⟨s1, s2, s3, s4⟩ := hSw; go_simp; try with_reducible rfl)
                simp only [Act.put, List.setIfInBounds_toArray, List.set_cons_zero, List.set_cons_succ]
                refine wpAnyH_take (i := 13) (oi := ⟨some 79, _, _, _, _, _⟩) (v := ?_) rfl (by kernel_rfl) (by kernel_rfl) (by kernel_rfl) (fun _ _ _ h => h) (Or.inl ⟨by rfl, ?_⟩) hS ?_
                rotate_left
                · (intro w' hSw; obtain ⟨s1, s2, s3, s4⟩ := hSw; go_simp; try with_reducible rfl)
                simp only [Act.put, List.setIfInBounds_toArray, List.set_cons_zero, List.set_cons_succ]
                refine wpAnyH_take (i := 14) (oi := ⟨some 80, _, _, _, _, _⟩) (v := ?_) rfl (by kernel_rfl) (by kernel_rfl) (by kernel_rfl) (fun _ _ _ h => h) (Or.inl ⟨by rfl, ?_⟩) hS ?_
                rotate_left
                · (intro w' hSw; obtain ⟨s1, s2, s3, s4⟩ := hSw; go_simp; try with_reducible rfl)
                simp only [Act.put, List.setIfInBounds_toArray, List.set_cons_zero, List.set_cons_succ]
                refine wpAnyH_ready (rs := [15]) (by kernel_rfl) (by simp) ?_
                refine AllReadyH.cons (o := ⟨none, _, _, _, _, _⟩) rfl (fun K hK => ?_) AllReadyH.nil
                refine step_storeB rfl 45 _ _ rfl _ _ #[.int .i64 0, .int .i64 0, .bool false, .bool false, .bool false, .bool false, .bool false, .int .i64 0, .int .i64 0] 45 rfl rfl (by kernel_rfl) rfl (by simp [Value.oneCell']) (by repeat' (first | with_reducible exact hX0.out | with_reducible refine BoxAt.putAny #[] ?_ rfl | (with_reducible refine BoxAt.row ?_ (by omega)) | with_reducible refine BoxAt.drew ?_ | with_reducible refine BoxAt.below ?_ hb16)) ?_
                refine hK.out _ _ ?_ (fun hS' => ?_)
                · (refine ⟨?_, ?_, ?_, ?_⟩ <;> (repeat (first | with_reducible exact hS.1 | with_reducible exact hS.2.1 | with_reducible exact hS.2.2.1 | with_reducible exact hS.2.2.2 | with_reducible assumption | with_reducible refine cell_drew ?_ | with_reducible refine cell_row (by omega) ?_ | refine keepc hb16 ?_)))
                clear hK K hS
                have hS := hS'
                clear hS'
                try simp only [Act.put]
                refine wpAnyH_ready (rs := [16]) (by kernel_rfl) (by simp) ?_
                refine AllReadyH.cons (o := ⟨none, _, _, _, _, _⟩) rfl (fun K hK => ?_) AllReadyH.nil
                refine step_storeB rfl 47 _ _ rfl _ _ #[.int .i64 0, .int .i64 0, .int .i64 0, .bool false, .int .i64 0] 47 rfl rfl (by kernel_rfl) rfl (by simp [Value.oneCell']) (by repeat' (first | with_reducible exact hY0.out | with_reducible refine BoxAt.putAny #[] ?_ rfl | (with_reducible refine BoxAt.row ?_ (by omega)) | with_reducible refine BoxAt.drew ?_ | with_reducible refine BoxAt.below ?_ hb16)) ?_
                refine hK.out _ _ ?_ (fun hS' => ?_)
                · (refine ⟨?_, ?_, ?_, ?_⟩ <;> (repeat (first | with_reducible exact hS.1 | with_reducible exact hS.2.1 | with_reducible exact hS.2.2.1 | with_reducible exact hS.2.2.2 | with_reducible assumption | with_reducible refine cell_drew ?_ | with_reducible refine cell_row (by omega) ?_ | refine keepc hb16 ?_)))
                clear hK K hS
                have hS := hS'
                clear hS'
                try simp only [Act.put]
                refine wpAnyH_take (i := 17) (oi := ⟨some 12, _, _, _, _, _⟩) (v := ?_) rfl (by kernel_rfl) (by kernel_rfl) (by kernel_rfl) (fun _ _ _ h => h) (Or.inl ⟨by rfl, ?_⟩) hS ?_
                rotate_left
                · (intro w' hSw; obtain ⟨s1, s2, s3, s4⟩ := hSw; go_simp; try with_reducible rfl)
                simp only [Act.put, List.setIfInBounds_toArray, List.set_cons_zero, List.set_cons_succ]
                refine wpAnyH_done (by kernel_rfl) ?_ _
                show KK _ _
                refine hKK _ _ (Met.intro (hJJ _ _ ?_))
                (repeat apply Exists.intro)
                refine ⟨?_, rfl⟩
                refine ⟨f2, c2, rfl, ?_, ?_, ?_, ?_⟩
                · show Below _ _ _
                  repeat' (first | with_reducible exact Below.refl _ _ | (with_reducible refine Below.rowB ?_ (by omega)) | with_reducible refine Below.drew ?_ | with_reducible refine Below.trans ?_ (hb16.mono (by simp; omega)))
                · show BoxAt _ _ _ _
                  repeat' (first | with_reducible exact hX0.out | with_reducible refine BoxAt.putAny #[.int .i64 0, .int .i64 0, .bool false, .bool false, .bool false, .bool false, .bool false, .int .i64 0, .int .i64 0] ?_ rfl | (with_reducible refine BoxAt.row ?_ (by omega)) | with_reducible refine BoxAt.drew ?_ | with_reducible refine BoxAt.below ?_ hb16)
                · show BoxAt _ _ _ _
                  repeat' (first | with_reducible exact hY0.out | with_reducible refine BoxAt.putAny #[.int .i64 0, .int .i64 0, .int .i64 0, .bool false, .int .i64 0] ?_ rfl | (with_reducible refine BoxAt.row ?_ (by omega)) | with_reducible refine BoxAt.drew ?_ | with_reducible refine BoxAt.below ?_ hb16)
                · show OwnI _ _ _ _
                  have hO17 := OwnI.mono hO16 (base' := w21.heap.size) (by simp)
                  repeat' (first | with_reducible exact hO17 | (with_reducible refine OwnI.row ?_ (by omega)))
              case rest =>
                obtain ⟨f2, c2, rfl, HBz, X50, Y50, Q50⟩ := hcut
                obtain ⟨w50, rfl⟩ : ∃ w50 : World, w50 = wc := ⟨_, rfl⟩
                have H50 := Lib.hid (H22.out.under HBz.out hlH)
                have F50 := Lib.hid (F22.out.under HBz.out hlF)
                have O50 := Lib.hid (O22.out.under HBz.out (OwnI.blt O20k.out))
                have B50 := Lib.hid (B22.out.trans (HBz.out.mono (by have := hs20; omega)))
                have hs50 := HBz.out.size
                clear Pc0 Pc1 Pc2 hpk26
                have Hc0 := H50.out.get 0 (.int .i64 hf) rfl
                have Hc1 := H50.out.get 1 (.int .i64 hm') rfl
                have Hc2 := H50.out.get 2 (.bool hr) rfl
                have Hc3 := H50.out.get 3 (.bool hw) rfl
                have Hc4 := H50.out.get 4 (.bool hx) rfl
                have Hc5 := H50.out.get 5 (.bool ha) rfl
                have Hc6 := H50.out.get 6 (.bool hn) rfl
                have Hc7 := H50.out.get 7 (.int .i64 hs) rfl
                have Hc8 := H50.out.get 8 (.int .i64 hl) rfl
                have Xc0 := X50.out.get 0 (.int .i64 hf) rfl
                have Xc1 := X50.out.get 1 (.int .i64 hm') rfl
                have Xc2 := X50.out.get 2 (.bool hr) rfl
                have Xc3 := X50.out.get 3 (.bool hw) rfl
                have Xc4 := X50.out.get 4 (.bool hx) rfl
                have Xc5 := X50.out.get 5 (.bool ha) rfl
                have Xc6 := X50.out.get 6 (.bool hn) rfl
                have Xc7 := X50.out.get 7 (.int .i64 hs) rfl
                have Xc8 := X50.out.get 8 (.int .i64 hl) rfl
                have Fc0 := F50.out.get 0 (.int .i64 fk) rfl
                have Fc1 := F50.out.get 1 (.int .i64 fs) rfl
                have Fc2 := F50.out.get 2 (.int .i64 fl) rfl
                have Fc3 := F50.out.get 3 (.bool fw) rfl
                have Fc4 := F50.out.get 4 (.int .i64 fp) rfl
                have Yc0 := Y50.out.get 0 (.int .i64 fk) rfl
                have Yc1 := Y50.out.get 1 (.int .i64 fs) rfl
                have Yc2 := Y50.out.get 2 (.int .i64 fl) rfl
                have Yc3 := Y50.out.get 3 (.bool fw) rfl
                have Yc4 := Y50.out.get 4 (.int .i64 fp) rfl
                go_wp2_with fail
                refine (lnum5_any _ _).mono ?_
                rintro e w51 ⟨rfl, rfl⟩
                go_wp2_with fail
                refine (eqI_any _ _ _ _ _ _ R _ (by omega) rfl rfl O50.out.ints.2 Q50.out.ints.2).mono ?_
                rintro e w60 ⟨rfl, m60, rfl⟩
                clear Hc0 Hc1 Hc2 Hc3 Hc4 Hc5 Hc6 Hc7 Hc8 Xc0 Xc1 Xc2 Xc3 Xc4 Xc5 Xc6 Xc7 Xc8 Fc0 Fc1 Fc2 Fc3 Fc4 Yc0 Yc1 Yc2 Yc3 Yc4
                go_wp2_with fail
                refine (spoilI_any wr.heap.size _ _ _ R _ (by omega) (by have := H50.out.lt; simp; omega) (O50.out.drewN m60)).mono ?_
                rintro e w61 ⟨rfl, hb61⟩
                go_wp2
                go_roundw
                case rel => exact ⟨st + 1, by omega, by omega, rfl, (below_drewN B50.out m60).trans (hb61.mono hws)⟩
                case measure => (simp [intOf] <;> omega)
        · have e3 : decide (st ≤ 2) = false := decide_eq_false hst
          have HB := Lib.hid hb
          clear hb
          go_wp2
          go_roundw
          case rel => exact ⟨k + 1, by omega, by go_num, HB.out⟩
          case measure => simp [intOf]; omega
    · by_cases hq : k < n
      · have hq' : ¬ (k < 12) := by omega
        have HB := Lib.hid hb
        clear hb
        go_wp2_with (go_at_call 16; refine (HW5.out _).mono ?_; rintro e w2 ⟨rfl, hb2⟩)
        go_ret
        exact ⟨rfl, bel_trans (bel_trans B1.out HB.out) hb2⟩
      · have HB := Lib.hid hb
        clear hb
        go_wp2_with (go_at_call 16; refine (HW5.out _).mono ?_; rintro e w2 ⟨rfl, hb2⟩)
        go_ret
        exact ⟨rfl, bel_trans (bel_trans B1.out HB.out) hb2⟩
end Go.Proofs.Ytkpckfmnjebjaaa
