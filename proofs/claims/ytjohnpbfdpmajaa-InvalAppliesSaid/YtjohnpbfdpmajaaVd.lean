/- The landed package tlb: copies, filled, dropped: contracts. -/
import Derived.Test.YtjohnpbfdpmajaaVb
import Derived.Test.YtjohnpbfdpmajaaBl
import Derived.Lib.SliceRun
import Derived.Deep.RegionLaw
set_option linter.all false
namespace Go.Proofs.Ytjohnpbfdpmajaa
open Go.ChangeShapes Go.WideShapes Go.ChangeAt Go.RowKit Go.Deep

theorem BoxAt.setMany {g : Nat} {t : TypeId} : ∀ (vs : List Value) (o : Nat) (w : World) (cur : Array Value), BoxAt w g cur t → o + vs.length ≤ cur.size →
    ∃ cur' : Array Value, BoxAt (w.setCells g o vs) g cur' t ∧ cur'.size = cur.size ∧ cur'.toList = cur.toList.take o ++ vs ++ cur.toList.drop (o + vs.length)
  | [], o, w, cur, h, _ => ⟨cur, h, rfl, by simp⟩
  | v :: r, o, w, cur, h, hs => by
    simp only [List.length_cons] at hs
    rw [World.setCells]
    obtain ⟨c', h1, h2, h3⟩ := BoxAt.setMany r (o + 1) _ _ (h.set o v _ rfl) (by rw [Array.size_setIfInBounds]; omega)
    refine ⟨c', h1, by rw [h2, Array.size_setIfInBounds], ?_⟩
    rw [h3, Array.toList_setIfInBounds, List.length_cons, List.drop_set, List.take_set]
    rw [if_pos (by omega)]
    have e1 : (List.take (o + 1) cur.toList).set o v = List.take o cur.toList ++ [v] := by
      rw [List.take_succ_eq_append_getElem (by rw [Array.length_toList]; omega), List.set_append_right _ _ (by rw [List.length_take]; omega)]
      have : o - (List.take o cur.toList).length = 0 := by simp; omega
      rw [this]
      rfl
    rw [e1, show o + 1 + r.length = o + (r.length + 1) by omega]
    simp
theorem rcells_take {Q : Type} (K : RowK Q) : ∀ (L : List Q) (i : Nat), rcells K (L.take i) = (rcells K L).take (i * K.N)
  | [], i => by simp [rcells]
  | x :: L, 0 => by simp [rcells]
  | x :: L, i + 1 => by
    rw [List.take_succ_cons, rcells, rcells, rcells_take K L i, Nat.add_mul, Nat.one_mul, Nat.add_comm (i * K.N)]
    have hx : (K.V x).toList.length = K.N := by rw [Array.length_toList]; exact K.size x
    rw [List.take_append]
    rw [hx, List.take_of_length_le (l := (K.V x).toList) (by omega), Nat.add_sub_cancel_left]
theorem heap_setCells_oth (g k : Nat) (hne : k ≠ g) : ∀ (vs : List Value) (o : Nat) (w : World), (w.setCells g o vs).heap[k]? = w.heap[k]?
  | [], _, _ => rfl
  | v :: r, o, w => by
    rw [World.setCells]
    exact (heap_setCells_oth g k hne r (o + 1) _).trans (Below.heap_setCell w ⟨g, o, none⟩ v k hne)
theorem grownBy_setCells {w : World} {g : Nat} : ∀ (vs : List Value) (o : Nat), w.grownBy (w.setCells g o vs) (some g) := fun vs o =>
  have h := below_setCells (B := 0) vs g o w (Below.refl 0 w) (Nat.zero_le _)
  ⟨h.os, h.tape, h.output, h.size, fun k hk hne => heap_setCells_oth g k (fun h => hne (by rw [h])) vs o w⟩
section
variable {Q : Type} {K : RowK Q} {w : World} {base g n c : Nat} {L : List Q}
/-- In a block of the call's own: what lies behind i elements is laid anew. -/
theorem OwnR.laid (h : OwnR K w base (.slice (some ⟨g, 0, none⟩) n c) L) (i : Nat) (M : List Q) (hi : i ≤ n) (hc : i + M.length ≤ c) :
    OwnR K (w.setCells g (i * K.N) (rcells K M)) base (.slice (some ⟨g, 0, none⟩) (i + M.length) c) (L.take i ++ M) := by
  have hn := h.rows.1
  have h0 := h.1
  rcases h.2 with ⟨he, _⟩ | ⟨g', cap, cur, he, hb, hg, hnc, hm, hs, ht⟩
  · simp at he
  simp only [Value.slice.injEq, Option.some.injEq, Addr.mk.injEq, and_true] at he
  obtain ⟨rfl, rfl, rfl⟩ := he
  have hlen : (rcells K M).length = M.length * K.N := rcells_length K M
  have hin : i * K.N + (rcells K M).length ≤ cur.size := by rw [hlen, hs, ← Nat.add_mul]; exact Nat.mul_le_mul_right _ hc
  obtain ⟨cur', h1, h2, h3⟩ := BoxAt.setMany (rcells K M) (i * K.N) w cur ⟨hg⟩ hin
  have hL : (L.take i ++ M).length = i + M.length := by rw [List.length_append, List.length_take, Nat.min_eq_left (by omega)]
  refine ⟨rcells_length K _, .inr ⟨g, c, cur', by rw [hL], hb, h1.h, by rw [hL]; exact hc, hm, by rw [h2, hs], ?_⟩⟩
  rw [h3, hL, rcells_append, rcells_take, ← ht, List.take_take, Nat.min_eq_left (Nat.mul_le_mul_right _ (by omega : i ≤ L.length))]
  have hcl : cur.toList.length = cur.size := Array.length_toList
  have hq : (List.take (i * K.N) cur.toList ++ rcells K M).length = (i + M.length) * K.N := by
    rw [List.length_append, List.length_take, hlen, hcl, Nat.add_mul, Nat.min_eq_left (by omega)]
  rw [List.take_append_of_le_length (by omega), List.take_of_length_le (by omega)]
/-- What is laid behind its elements does not touch it. -/
theorem OwnR.past (h : OwnR K w base (.slice (some ⟨g, 0, none⟩) n c) L) (vs : List Value) (hv : n * K.N + vs.length ≤ c * K.N) :
    OwnR K (w.setCells g (n * K.N) vs) base (.slice (some ⟨g, 0, none⟩) n c) L := by
  have hn := h.rows.1
  rcases h.2 with ⟨he, _⟩ | ⟨g', cap, cur, he, hb, hg, hnc, hm, hs, ht⟩
  · simp at he
  simp only [Value.slice.injEq, Option.some.injEq, Addr.mk.injEq, and_true] at he
  obtain ⟨rfl, rfl, rfl⟩ := he
  obtain ⟨cur', h1, h2, h3⟩ := BoxAt.setMany vs (L.length * K.N) w cur ⟨hg⟩ (by rw [hs]; exact hv)
  refine ⟨h.1, .inr ⟨g, c, cur', rfl, hb, h1.h, hnc, hm, by rw [h2, hs], ?_⟩⟩
  have hle : L.length * K.N ≤ cur.toList.length := by
    have h5 : cur.toList.length = cur.size := Array.length_toList
    have h6 := Nat.mul_le_mul_right K.N hnc
    omega
  rw [h3, List.append_assoc, List.take_append_of_le_length (by rw [List.length_take]; omega), List.take_take, Nat.min_self]
  exact ht
theorem OwnR.cell (h : OwnR K w base (.slice (some ⟨g, 0, none⟩) n c) L) (j : Nat) (hj : j < c * K.N) : (w.cell? ⟨g, j, none⟩).isSome = true ∧ w.frozen? ⟨g, j, none⟩ = false := by
  rcases h.2 with ⟨he, _⟩ | ⟨g', cap, cur, he, hb, hg, hnc, hm, hs, ht⟩
  · simp at he
  simp only [Value.slice.injEq, Option.some.injEq, Addr.mk.injEq, and_true] at he
  obtain ⟨rfl, rfl, rfl⟩ := he
  have hB : BoxAt w g cur K.t := ⟨hg⟩
  refine ⟨?_, hB.free j⟩
  rw [hB.cell j]
  simp
  omega
theorem OwnR.room (h : OwnR K w base (.slice (some ⟨g, 0, none⟩) n c) L) : n ≤ c ∧ c ≤ maxLen := by
  have hn := h.rows.1
  rcases h.2 with ⟨he, _⟩ | ⟨g', cap, cur, he, hb, hg, hnc, hm, hs, ht⟩
  · simp at he
  simp only [Value.slice.injEq, Option.some.injEq, Addr.mk.injEq, and_true] at he
  obtain ⟨rfl, rfl, rfl⟩ := he
  exact ⟨by omega, hm⟩
end
section
variable {Q : Type} {K : RowK Q}
/-- 'append(s, x...)' of a row of structs; the number of elements told. -/
theorem wpList_rowRl {w : World} {ops : Array Oper} {rest : List Oper} {o : Oper} {a : Act} {QQ : Exit → Act → World → Prop} (hgd : o.guard = none) (s x : Operand)
    (ho : o.op = .call { callee := .builtin .append, args := #[s, x], argTypes := #[K.ts, K.ts] })
    (base n m k : Nat) (v : Value) (L M : List Q) (hs : a.eval s = v) (hown : OwnR K w base v L) (hn : n = L.length)
    (f : Option Addr) (c : Nat) (hx : a.eval x = .slice f m c) (hm : m = M.length) (hnm : n + m = k) (hM : RowsAt K w f M) (hf : f = none → c = 0) (hk : n + m ≤ 100000) (hbase : base ≤ w.heap.size)
    (h : ∀ f' c' w', OwnR K w' base (.slice f' k c') (L ++ M) → w.grownBy w' v.ownBlock → (f' = none → c' = 0) → wpList Try.prog ops QQ rest (a.put o.dst (.slice f' k c')) w') : wpList Try.prog ops QQ (o :: rest) a w := by
  subst hn hm hnm
  exact wpList_rowR hgd s x ho base v L M hs hown f M.length c hx rfl hM hf hk hbase h
end
set_option maxRecDepth 100000 in
set_option maxHeartbeats 3200000 in
theorem tclE_any (f : Option Addr) (l c : Nat) (L : List Ety) (w : World) (hL : RowsAt KE w f L) (hn : l = L.length) (hl : l ≤ 100000) (hf : f = none → c = 0) :
    Calls Try.prog 59 #[.slice f l c] w fun e w' => ∃ f' c', e = .returned (.slice f' l c') ∧ OwnR KE w' w.heap.size (.slice f' l c') L ∧ Below w.heap.size w w' := by
  rcases f with _ | q
  · have hL0 : L = [] := by
      cases L with
      | nil => rfl
      | cons x L =>
        obtain ⟨b, o, he, _⟩ := hL 0 x rfl
        cases he
    have hc0 := hf rfl
    subst hL0 hn hc0
    clear hL hf hl
    have he : ∀ w : World, (binOp .eql 24 (.slice none 0 0) (.slice none 0 0)).run Try.prog w = .ok (.bool true) w := fun _ => rfl
    go_enter Try.func59, Try.ntmps59
    go_wp2
    go_ret
    exact ⟨none, 0, rfl, OwnR.nil _ _, Below.refl _ _⟩
  · have he : ∀ w : World, (binOp .eql 24 (.slice (some q) l c) (.slice none 0 0)).run Try.prog w = .ok (.bool false) w := fun _ => rfl
    have HA := Lib.hid (bel_alloc (Below.refl w.heap.size w) (.cells #[] KE.t))
    have HL := Lib.hid (hL.below HA.out)
    have HN := Lib.hid hn
    have HO := Lib.hid (OwnR.made (K := KE) w w.heap.size [] #[] 0 (Nat.le_refl _) rfl (by simp) rfl)
    clear hL hn hf
    go_enter Try.func59, Try.ntmps59
    go_wp2_with (at_builtin; refine wpList_rowRl (K := KE) rfl _ _ rfl w.heap.size 0 l l _ [] L rfl HO.out rfl (some q) c rfl HN.out (by omega) HL.out (by simp) (by omega) HA.out.size ?_; intro f2 c2 w2 hO2 hG2 _)
    go_ret
    exact ⟨f2, c2, rfl, hO2, HA.out.grown hG2 HA.out.size HO.out.blk⟩
set_option maxRecDepth 100000 in
set_option maxHeartbeats 3200000 in
theorem tclI_any (f : Option Addr) (l c : Nat) (L : List Inv) (w : World) (hL : RowsAt KI w f L) (hn : l = L.length) (hl : l ≤ 100000) (hf : f = none → c = 0) :
    Calls Try.prog 60 #[.slice f l c] w fun e w' => ∃ f' c', e = .returned (.slice f' l c') ∧ OwnR KI w' w.heap.size (.slice f' l c') L ∧ Below w.heap.size w w' := by
  rcases f with _ | q
  · have hL0 : L = [] := by
      cases L with
      | nil => rfl
      | cons x L =>
        obtain ⟨b, o, he, _⟩ := hL 0 x rfl
        cases he
    have hc0 := hf rfl
    subst hL0 hn hc0
    clear hL hf hl
    have he : ∀ w : World, (binOp .eql 23 (.slice none 0 0) (.slice none 0 0)).run Try.prog w = .ok (.bool true) w := fun _ => rfl
    go_enter Try.func60, Try.ntmps60
    go_wp2
    go_ret
    exact ⟨none, 0, rfl, OwnR.nil _ _, Below.refl _ _⟩
  · have he : ∀ w : World, (binOp .eql 23 (.slice (some q) l c) (.slice none 0 0)).run Try.prog w = .ok (.bool false) w := fun _ => rfl
    have HA := Lib.hid (bel_alloc (Below.refl w.heap.size w) (.cells #[] KI.t))
    have HL := Lib.hid (hL.below HA.out)
    have HN := Lib.hid hn
    have HO := Lib.hid (OwnR.made (K := KI) w w.heap.size [] #[] 0 (Nat.le_refl _) rfl (by simp) rfl)
    clear hL hn hf
    go_enter Try.func60, Try.ntmps60
    go_wp2_with (at_builtin; refine wpList_rowRl (K := KI) rfl _ _ rfl w.heap.size 0 l l _ [] L rfl HO.out rfl (some q) c rfl HN.out (by omega) HL.out (by simp) (by omega) HA.out.size ?_; intro f2 c2 w2 hO2 hG2 _)
    go_ret
    exact ⟨f2, c2, rfl, hO2, HA.out.grown hG2 HA.out.size HO.out.blk⟩
end Go.Proofs.Ytjohnpbfdpmajaa
