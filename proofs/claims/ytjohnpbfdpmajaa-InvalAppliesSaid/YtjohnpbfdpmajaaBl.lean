/- What was handed back is spoiled: contract. -/
import Derived.Test.YtjohnpbfdpmajaaBf
import Derived.Deep.MidRow
set_option linter.all false
namespace Go.Proofs.Ytjohnpbfdpmajaa
open Go.ChangeShapes Go.WideShapes Go.ChangeAt Go.RowKit Go.Deep

theorem below_setCells {B : Nat} {a : World} : ∀ (vs : List Value) (b o : Nat) (w : World), Below B a w → B ≤ b → Below B a (w.setCells b o vs)
  | [], _, _, _, h, _ => h
  | v :: r, b, o, w, h, hb => by
    rw [World.setCells]
    exact below_setCells r b (o + 1) _ (Below.setCell h (p := ⟨b, o, none⟩) hb v) hb
theorem BoxAt.setCells {b : Nat} {cs : Array Value} {t : TypeId} : ∀ (vs : List Value) (g o : Nat) {w : World}, BoxAt w b cs t → b ≠ g → BoxAt (w.setCells g o vs) b cs t
  | [], _, _, _, h, _ => h
  | v :: r, g, o, w, h, hb => by
    rw [World.setCells]
    exact BoxAt.setCells r g (o + 1) (h.other ⟨g, o, none⟩ v hb) hb
theorem OwnR.there {Q : Type} {K : RowK Q} {w : World} {base n c : Nat} {f : Option Addr} {L : List Q} (h : OwnR K w base (.slice f n c) L) (hn : 0 < n) : ∃ g, f = some ⟨g, 0, none⟩ ∧ base ≤ g ∧ g < w.heap.size ∧ w.there g 0 (n * K.N) := by
  have hnl := h.rows.1
  rcases h.2 with ⟨he, hz⟩ | ⟨g, cap, cur, he, hbg, hgg, hc, hm, hsz, _⟩
  · omega
  · simp only [Value.slice.injEq] at he
    obtain ⟨rfl, hn2, rfl⟩ := he
    have hB : BoxAt w g cur K.t := ⟨hgg⟩
    refine ⟨g, rfl, hbg, hB.lt, fun j hj => ?_⟩
    rw [Nat.zero_add]
    refine ⟨?_, hB.free j⟩
    rw [hB.cell j]
    have : n * K.N ≤ c * K.N := Nat.mul_le_mul_right _ (by omega)
    simp
    omega
theorem there_sub {w : World} {g n k N : Nat} (h : w.there g 0 (n * N)) (hk : k < n) : w.there g (k * N) N := by
  intro j hj
  have h2 : k * N + j < n * N := by
    have : (k + 1) * N ≤ n * N := Nat.mul_le_mul_right _ hk
    rw [Nat.add_mul] at this
    omega
  have := h (k * N + j) h2
  rwa [Nat.zero_add] at this
def spE : Array Value := #[.int .i64 (-9), .int .i64 0, .int .i64 0, .bool false, .int .i64 0, .int .i64 0, .int .i64 0, .int .i64 0, .bool false, .bool false, .bool false, .bool false, .bool false, .int .i64 0]
def spV : Array Value := #[.int .i64 (-9), .int .i64 0, .int .i64 0, .int .i64 0]
theorem spE_one : spE.all (·.oneCell') = true := by simp [spE, Value.oneCell']
theorem spV_one : spV.all (·.oneCell') = true := by simp [spV, Value.oneCell']
theorem spE_info : (Try.prog.info? 36).map (·.size) = some spE.size := by kernel_rfl
theorem spV_info : (Try.prog.info? 32).map (·.size) = some spV.size := by kernel_rfl
set_option maxRecDepth 100000 in
set_option maxHeartbeats 3200000 in
theorem spoilT_any (base : Nat) (f g : Option Addr) (l c m d : Nat) (E : List Ety) (D : List Inv) (w : World) (hE : OwnR KE w base (.slice f l c) E) (hD : OwnR KI w base (.slice g m d) D) (hbase : base ≤ w.heap.size) (hl : l ≤ 1000000) (hm : m ≤ 1000000) :
    Calls Try.prog 27 #[.agg #[.slice f l c, .slice g m d]] w fun e w' => e = .returned (.tuple #[]) ∧ Below base w w' := by
  have HT := Lib.hid (fun h => hE.there h)
  have HV := Lib.hid (fun h => hD.there h)
  have hbs := Lib.hid hbase
  clear hE hD hbase
  have HI1 := Lib.hid spE_info
  have HI2 := Lib.hid spE_one
  have HI3 := Lib.hid spV_info
  have HI4 := Lib.hid spV_one
  have T0 := Lib.hid (BoxAt.new w #[.slice f l c, .slice g m d] 43)
  have B0 := Lib.hid (Below.alloc (Below.refl base w) hbs.out (.cells #[.slice f l c, .slice g m d] 43))
  go_enter Try.func27, Try.ntmps27
  go_wp2
  obtain ⟨W1, hW1⟩ : ∃ W1, W1 = w.alloc (.cells #[.slice f l c, .slice g m d] 43) := ⟨_, rfl⟩
  obtain ⟨G, hG⟩ : ∃ G, G = w.heap.size := ⟨_, rfl⟩
  have hk1 : ∀ b o n, w.there b o n → W1.there b o n := fun b o n h => by rw [hW1]; exact World.there_alloc h _
  have HK1 := Lib.hid hk1
  rw [← hW1] at T0 B0 ⊢
  rw [← hG] at T0 ⊢
  have HG := Lib.hid hG
  clear hW1 hk1 hG
  go_loopw [2] (fun i wr => ∃ k : Nat, k ≤ l ∧ i = .int .i64 k ∧ Hid (Below base w wr) ∧ Hid (BoxAt wr G #[.slice f l c, .slice g m d] 43) ∧ Hid (∀ b o n, w.there b o n → wr.there b o n)) (fun i _ => l - (intOf i).toNat)
  case atStart => exact ⟨0, Nat.zero_le _, rfl, B0, T0, HK1⟩
  case round =>
    obtain ⟨k, hk, rfl, B1, T1, HK⟩ := hrel
    clear B0 T0 HK1
    by_cases hlt : k < l
    · obtain ⟨gb, rfl, hg1, hg2, ht⟩ := HT.out (by omega)
      have HTH := Lib.hid (there_sub (N := 14) (HK.out _ _ _ ht) hlt)
      have c0 := T1.out.get 0 (.slice (some ⟨gb, 0, none⟩) l c) rfl
      have i1 : (0 : Int) ≤ (k : Int) := by omega
      have i2 : (k : Int) < (l : Int) := by omega
      clear ht
      go_wp2_with (refine wpList_store_mid rfl 36 _ _ rfl gb (k * 14) spE rfl rfl HTH.out HI1.out HI2.out ?_; obtain ⟨W9, hW9⟩ : ∃ W9, W9 = wr.setCells gb (k * 14) spE.toList := ⟨_, rfl⟩; rw [← hW9]; have HB9 := Lib.hid (show Below base w W9 from by rw [hW9]; exact below_setCells _ _ _ _ B1.out hg1); have HT9 := Lib.hid (show BoxAt W9 G #[.slice (some ⟨gb, 0, none⟩) l c, .slice g m d] 43 from by rw [hW9]; exact BoxAt.setCells _ _ _ T1.out (by have := HG.out; omega)); have HK9 := Lib.hid (show ∀ b o n, w.there b o n → W9.there b o n from by rw [hW9]; exact fun b o n h => World.there_setCells (HK.out b o n h) _ _ _); clear hW9)
      go_roundw
      case rel => exact ⟨k + 1, by omega, by go_num, HB9.out, HT9.out, HK9.out⟩
      case measure => simp [intOf]; omega
    · have c0 := T1.out.get 0 (.slice f l c) rfl
      have B0 := B1
      have T0 := T1
      have HK1 := HK
      clear B1 T1 HK
      go_wp2_with fail
      go_loopw [3] (fun i wr => ∃ k : Nat, k ≤ m ∧ i = .int .i64 k ∧ Hid (Below base w wr) ∧ Hid (BoxAt wr G #[.slice f l c, .slice g m d] 43) ∧ Hid (∀ b o n, w.there b o n → wr.there b o n)) (fun i _ => m - (intOf i).toNat)
      case atStart => exact ⟨0, Nat.zero_le _, rfl, B0.out, T0.out, HK1.out⟩
      case round =>
        obtain ⟨k2, hk2, rfl, B1, T1, HK⟩ := hrel
        clear B0 T0 HK1
        by_cases hlt2 : k2 < m
        · obtain ⟨gb, rfl, hg1, hg2, ht⟩ := HV.out (by omega)
          have HTH := Lib.hid (there_sub (N := 4) (HK.out _ _ _ ht) hlt2)
          have c1 := T1.out.get 1 (.slice (some ⟨gb, 0, none⟩) m d) rfl
          have i1 : (0 : Int) ≤ (k2 : Int) := by omega
          have i2 : (k2 : Int) < (m : Int) := by omega
          clear ht
          go_wp2_with (refine wpList_store_mid rfl 32 _ _ rfl gb (k2 * 4) spV rfl rfl HTH.out HI3.out HI4.out ?_; obtain ⟨W9, hW9⟩ : ∃ W9, W9 = wr.setCells gb (k2 * 4) spV.toList := ⟨_, rfl⟩; rw [← hW9]; have HB9 := Lib.hid (show Below base w W9 from by rw [hW9]; exact below_setCells _ _ _ _ B1.out hg1); have HT9 := Lib.hid (show BoxAt W9 G #[.slice f l c, .slice (some ⟨gb, 0, none⟩) m d] 43 from by rw [hW9]; exact BoxAt.setCells _ _ _ T1.out (by have := HG.out; omega)); have HK9 := Lib.hid (show ∀ b o n, w.there b o n → W9.there b o n from by rw [hW9]; exact fun b o n h => World.there_setCells (HK.out b o n h) _ _ _); clear hW9)
          go_roundw
          case rel => exact ⟨k2 + 1, by omega, by go_num, HB9.out, HT9.out, HK9.out⟩
          case measure => simp [intOf]; omega
        · have c1 := T1.out.get 1 (.slice g m d) rfl
          go_wp2
          go_end0
          exact ⟨rfl, B1.out⟩
end Go.Proofs.Ytjohnpbfdpmajaa
