/- The landed package tlb: copies, filled, dropped: contracts. -/
import Derived.Test.YtcbjmpllmnphkaaVb
import Derived.Test.YtcbjmpllmnphkaaBl
import Derived.Lib.SliceRun
import Derived.Deep.RegionLaw
set_option linter.all false
namespace Go.Proofs.Ytcbjmpllmnphkaa
open Go.ChangeShapes Go.WideShapes Go.ChangeAt Go.RowKit Go.Deep

theorem BoxAt.setMany {g : Nat} {t : TypeId} : ∀ (vs : List Value) (o : Nat) (w : World) (cur : Array Value), BoxAt w g cur t → o + vs.length ≤ cur.size →
    ∃ cur' : Array Value, BoxAt (w.setCells g o vs) g cur' t ∧ cur'.size = cur.size ∧ cur'.toList = cur.toList.take o ++ vs ++ cur.toList.drop (o + vs.length)
  | [], o, w, cur, h, _ => ⟨cur, h, rfl, by simp⟩
  | v :: r, o, w, cur, h, hs => by
    simp only [List.length_cons] at hs
    rw [World.setCells]
    obtain ⟨c', h1, h2, h3⟩ := BoxAt.setMany r (o + 1) _ _ (h.set o v _ rfl) (by rw [Array.size_setIfInBounds]; omega)
    refine ⟨c', h1, by rw [h2, Array.size_setIfInBounds], ?_⟩
    rw [h3, Array.toList_setIfInBounds, List.length_cons, List.drop_set, List.take_set]
    rw [if_pos (by omega)]
    have e1 : (List.take (o + 1) cur.toList).set o v = List.take o cur.toList ++ [v] := by
      rw [List.take_succ_eq_append_getElem (by rw [Array.length_toList]; omega), List.set_append_right _ _ (by rw [List.length_take]; omega)]
      have : o - (List.take o cur.toList).length = 0 := by simp; omega
      rw [this]
      rfl
    rw [e1, show o + 1 + r.length = o + (r.length + 1) by omega]
    simp
theorem rcells_take {Q : Type} (K : RowK Q) : ∀ (L : List Q) (i : Nat), rcells K (L.take i) = (rcells K L).take (i * K.N)
  | [], i => by simp [rcells]
  | x :: L, 0 => by simp [rcells]
  | x :: L, i + 1 => by
    rw [List.take_succ_cons, rcells, rcells, rcells_take K L i, Nat.add_mul, Nat.one_mul, Nat.add_comm (i * K.N)]
    have hx : (K.V x).toList.length = K.N := by rw [Array.length_toList]; exact K.size x
    rw [List.take_append]
    rw [hx, List.take_of_length_le (l := (K.V x).toList) (by omega), Nat.add_sub_cancel_left]
theorem heap_setCells_oth (g k : Nat) (hne : k ≠ g) : ∀ (vs : List Value) (o : Nat) (w : World), (w.setCells g o vs).heap[k]? = w.heap[k]?
  | [], _, _ => rfl
  | v :: r, o, w => by
    rw [World.setCells]
    exact (heap_setCells_oth g k hne r (o + 1) _).trans (Below.heap_setCell w ⟨g, o, none⟩ v k hne)
theorem grownBy_setCells {w : World} {g : Nat} : ∀ (vs : List Value) (o : Nat), w.grownBy (w.setCells g o vs) (some g) := fun vs o =>
  have h := below_setCells (B := 0) vs g o w (Below.refl 0 w) (Nat.zero_le _)
  ⟨h.os, h.tape, h.output, h.size, fun k hk hne => heap_setCells_oth g k (fun h => hne (by rw [h])) vs o w⟩
section
variable {Q : Type} {K : RowK Q} {w : World} {base g n c : Nat} {L : List Q}
/-- In a block of the call's own: what lies behind i elements is laid anew. -/
theorem OwnR.laid (h : OwnR K w base (.slice (some ⟨g, 0, none⟩) n c) L) (i : Nat) (M : List Q) (hi : i ≤ n) (hc : i + M.length ≤ c) :
    OwnR K (w.setCells g (i * K.N) (rcells K M)) base (.slice (some ⟨g, 0, none⟩) (i + M.length) c) (L.take i ++ M) := by
  have hn := h.rows.1
  have h0 := h.1
  rcases h.2 with ⟨he, _⟩ | ⟨g', cap, cur, he, hb, hg, hnc, hm, hs, ht⟩
  · simp at he
  simp only [Value.slice.injEq, Option.some.injEq, Addr.mk.injEq, and_true] at he
  obtain ⟨rfl, rfl, rfl⟩ := he
  have hlen : (rcells K M).length = M.length * K.N := rcells_length K M
  have hin : i * K.N + (rcells K M).length ≤ cur.size := by rw [hlen, hs, ← Nat.add_mul]; exact Nat.mul_le_mul_right _ hc
  obtain ⟨cur', h1, h2, h3⟩ := BoxAt.setMany (rcells K M) (i * K.N) w cur ⟨hg⟩ hin
  have hL : (L.take i ++ M).length = i + M.length := by rw [List.length_append, List.length_take, Nat.min_eq_left (by omega)]
  refine ⟨rcells_length K _, .inr ⟨g, c, cur', by rw [hL], hb, h1.h, by rw [hL]; exact hc, hm, by rw [h2, hs], ?_⟩⟩
  rw [h3, hL, rcells_append, rcells_take, ← ht, List.take_take, Nat.min_eq_left (Nat.mul_le_mul_right _ (by omega : i ≤ L.length))]
  have hcl : cur.toList.length = cur.size := Array.length_toList
  have hq : (List.take (i * K.N) cur.toList ++ rcells K M).length = (i + M.length) * K.N := by
    rw [List.length_append, List.length_take, hlen, hcl, Nat.add_mul, Nat.min_eq_left (by omega)]
  rw [List.take_append_of_le_length (by omega), List.take_of_length_le (by omega)]
/-- What is laid behind its elements does not touch it. -/
theorem OwnR.past (h : OwnR K w base (.slice (some ⟨g, 0, none⟩) n c) L) (vs : List Value) (hv : n * K.N + vs.length ≤ c * K.N) :
    OwnR K (w.setCells g (n * K.N) vs) base (.slice (some ⟨g, 0, none⟩) n c) L := by
  have hn := h.rows.1
  rcases h.2 with ⟨he, _⟩ | ⟨g', cap, cur, he, hb, hg, hnc, hm, hs, ht⟩
  · simp at he
  simp only [Value.slice.injEq, Option.some.injEq, Addr.mk.injEq, and_true] at he
  obtain ⟨rfl, rfl, rfl⟩ := he
  obtain ⟨cur', h1, h2, h3⟩ := BoxAt.setMany vs (L.length * K.N) w cur ⟨hg⟩ (by rw [hs]; exact hv)
  refine ⟨h.1, .inr ⟨g, c, cur', rfl, hb, h1.h, hnc, hm, by rw [h2, hs], ?_⟩⟩
  have hle : L.length * K.N ≤ cur.toList.length := by
    have h5 : cur.toList.length = cur.size := Array.length_toList
    have h6 := Nat.mul_le_mul_right K.N hnc
    omega
  rw [h3, List.append_assoc, List.take_append_of_le_length (by rw [List.length_take]; omega), List.take_take, Nat.min_self]
  exact ht
theorem OwnR.cell (h : OwnR K w base (.slice (some ⟨g, 0, none⟩) n c) L) (j : Nat) (hj : j < c * K.N) : (w.cell? ⟨g, j, none⟩).isSome = true ∧ w.frozen? ⟨g, j, none⟩ = false := by
  rcases h.2 with ⟨he, _⟩ | ⟨g', cap, cur, he, hb, hg, hnc, hm, hs, ht⟩
  · simp at he
  simp only [Value.slice.injEq, Option.some.injEq, Addr.mk.injEq, and_true] at he
  obtain ⟨rfl, rfl, rfl⟩ := he
  have hB : BoxAt w g cur K.t := ⟨hg⟩
  refine ⟨?_, hB.free j⟩
  rw [hB.cell j]
  simp
  omega
theorem OwnR.room (h : OwnR K w base (.slice (some ⟨g, 0, none⟩) n c) L) : n ≤ c ∧ c ≤ maxLen := by
  have hn := h.rows.1
  rcases h.2 with ⟨he, _⟩ | ⟨g', cap, cur, he, hb, hg, hnc, hm, hs, ht⟩
  · simp at he
  simp only [Value.slice.injEq, Option.some.injEq, Addr.mk.injEq, and_true] at he
  obtain ⟨rfl, rfl, rfl⟩ := he
  exact ⟨by omega, hm⟩
end
section
variable {Q : Type} {K : RowK Q}
/-- 'append(s, x...)' of a row of structs; the number of elements told. -/
theorem wpList_rowRl {w : World} {ops : Array Oper} {rest : List Oper} {o : Oper} {a : Act} {QQ : Exit → Act → World → Prop} (hgd : o.guard = none) (s x : Operand)
    (ho : o.op = .call { callee := .builtin .append, args := #[s, x], argTypes := #[K.ts, K.ts] })
    (base n m k : Nat) (v : Value) (L M : List Q) (hs : a.eval s = v) (hown : OwnR K w base v L) (hn : n = L.length)
    (f : Option Addr) (c : Nat) (hx : a.eval x = .slice f m c) (hm : m = M.length) (hnm : n + m = k) (hM : RowsAt K w f M) (hf : f = none → c = 0) (hk : n + m ≤ 100000) (hbase : base ≤ w.heap.size)
    (h : ∀ f' c' w', OwnR K w' base (.slice f' k c') (L ++ M) → w.grownBy w' v.ownBlock → (f' = none → c' = 0) → wpList Try.prog ops QQ rest (a.put o.dst (.slice f' k c')) w') : wpList Try.prog ops QQ (o :: rest) a w := by
  subst hn hm hnm
  exact wpList_rowR hgd s x ho base v L M hs hown f M.length c hx rfl hM hf hk hbase h
end
set_option maxRecDepth 100000 in
set_option maxHeartbeats 3200000 in
theorem tclE_any (f : Option Addr) (l c : Nat) (L : List Ety) (w : World) (hL : RowsAt KE w f L) (hn : l = L.length) (hl : l ≤ 100000) (hf : f = none → c = 0) :
    Calls Try.prog 64 #[.slice f l c] w fun e w' => ∃ f' c', e = .returned (.slice f' l c') ∧ OwnR KE w' w.heap.size (.slice f' l c') L ∧ Below w.heap.size w w' := by
  rcases f with _ | q
  · have hL0 : L = [] := by
      cases L with
      | nil => rfl
      | cons x L =>
        obtain ⟨b, o, he, _⟩ := hL 0 x rfl
        cases he
    have hc0 := hf rfl
    subst hL0 hn hc0
    clear hL hf hl
    have he : ∀ w : World, (binOp .eql 22 (.slice none 0 0) (.slice none 0 0)).run Try.prog w = .ok (.bool true) w := fun _ => rfl
    go_enter Try.func64, Try.ntmps64
    go_wp2
    go_ret
    exact ⟨none, 0, rfl, OwnR.nil _ _, Below.refl _ _⟩
  · have he : ∀ w : World, (binOp .eql 22 (.slice (some q) l c) (.slice none 0 0)).run Try.prog w = .ok (.bool false) w := fun _ => rfl
    have HA := Lib.hid (bel_alloc (Below.refl w.heap.size w) (.cells #[] KE.t))
    have HL := Lib.hid (hL.below HA.out)
    have HN := Lib.hid hn
    have HO := Lib.hid (OwnR.made (K := KE) w w.heap.size [] #[] 0 (Nat.le_refl _) rfl (by simp) rfl)
    clear hL hn hf
    go_enter Try.func64, Try.ntmps64
    go_wp2_with (at_builtin; refine wpList_rowRl (K := KE) rfl _ _ rfl w.heap.size 0 l l _ [] L rfl HO.out rfl (some q) c rfl HN.out (by omega) HL.out (by simp) (by omega) HA.out.size ?_; intro f2 c2 w2 hO2 hG2 _)
    go_ret
    exact ⟨f2, c2, rfl, hO2, HA.out.grown hG2 HA.out.size HO.out.blk⟩
set_option maxRecDepth 100000 in
set_option maxHeartbeats 3200000 in
theorem tclI_any (f : Option Addr) (l c : Nat) (L : List Inv) (w : World) (hL : RowsAt KI w f L) (hn : l = L.length) (hl : l ≤ 100000) (hf : f = none → c = 0) :
    Calls Try.prog 65 #[.slice f l c] w fun e w' => ∃ f' c', e = .returned (.slice f' l c') ∧ OwnR KI w' w.heap.size (.slice f' l c') L ∧ Below w.heap.size w w' := by
  rcases f with _ | q
  · have hL0 : L = [] := by
      cases L with
      | nil => rfl
      | cons x L =>
        obtain ⟨b, o, he, _⟩ := hL 0 x rfl
        cases he
    have hc0 := hf rfl
    subst hL0 hn hc0
    clear hL hf hl
    have he : ∀ w : World, (binOp .eql 23 (.slice none 0 0) (.slice none 0 0)).run Try.prog w = .ok (.bool true) w := fun _ => rfl
    go_enter Try.func65, Try.ntmps65
    go_wp2
    go_ret
    exact ⟨none, 0, rfl, OwnR.nil _ _, Below.refl _ _⟩
  · have he : ∀ w : World, (binOp .eql 23 (.slice (some q) l c) (.slice none 0 0)).run Try.prog w = .ok (.bool false) w := fun _ => rfl
    have HA := Lib.hid (bel_alloc (Below.refl w.heap.size w) (.cells #[] KI.t))
    have HL := Lib.hid (hL.below HA.out)
    have HN := Lib.hid hn
    have HO := Lib.hid (OwnR.made (K := KI) w w.heap.size [] #[] 0 (Nat.le_refl _) rfl (by simp) rfl)
    clear hL hn hf
    go_enter Try.func65, Try.ntmps65
    go_wp2_with (at_builtin; refine wpList_rowRl (K := KI) rfl _ _ rfl w.heap.size 0 l l _ [] L rfl HO.out rfl (some q) c rfl HN.out (by omega) HL.out (by simp) (by omega) HA.out.size ?_; intro f2 c2 w2 hO2 hG2 _)
    go_ret
    exact ⟨f2, c2, rfl, hO2, HA.out.grown hG2 HA.out.size HO.out.blk⟩
set_option maxRecDepth 100000 in
set_option maxHeartbeats 3200000 in
theorem tcopied_any (f g : Option Addr) (l c m d : Nat) (E : List Ety) (D : List Inv) (w : World) (hE : RowsAt KE w f E) (hl : l = E.length) (hD : RowsAt KI w g D) (hm : m = D.length) (hls : l ≤ 90000) (hms : m ≤ 90000) (hf : f = none → c = 0) (hg : g = none → d = 0) :
    Calls Try.prog 53 #[.agg #[.slice f l c, .slice g m d]] w (EndT w E D) := by
  unfold EndT
  rw [← hl, ← hm]
  have HE := Lib.hid (fun W (hB : Below w.heap.size w W) => tclE_any f l c E W (hE.below hB) hl (by omega) hf)
  have HD := Lib.hid (fun W (hB : Below w.heap.size w W) => tclI_any g m d D W (hD.below hB) hm (by omega) hg)
  clear hE hl hD hm hls hms hf hg
  have htw : w.heap.size ≤ w.heap.size := Nat.le_refl _
  have B0 := Lib.hid (Below.refl w.heap.size w)
  go_enter Try.func53, Try.ntmps53
  go_upto_region 1 with fail
  have A1 := Lib.hid (((BoxAt.newAt (w) #[.slice f l c, .slice g m d] 69 (w.heap.size) (by first | omega | (simp; done) | (simp; omega))).alloc (.cells #[.slice none 0 0, .slice none 0 0] 25)))
  have R1 := Lib.hid ((BoxAt.newAt ((w).alloc (.cells #[.slice f l c, .slice g m d] 69)) #[.slice none 0 0, .slice none 0 0] 25 (w.heap.size + 1) (by first | omega | (simp; done) | (simp; omega))))
  have B1 := Lib.hid ((bel_alloc (bel_alloc B0.out (.cells #[.slice f l c, .slice g m d] 69)) (.cells #[.slice none 0 0, .slice none 0 0] 25)))
  obtain ⟨g1, hg1⟩ : ∃ g1, g1 = w.heap.size := ⟨_, rfl⟩
  obtain ⟨W1, hW1⟩ : ∃ W1, W1 = ((w).alloc (.cells #[.slice f l c, .slice g m d] 69)).alloc (.cells #[.slice none 0 0, .slice none 0 0] 25) := ⟨_, rfl⟩
  have hs1 : g1 + 1 + 1 ≤ W1.heap.size := by rw [hW1, hg1]; simp
  rw [← hW1] at A1 R1 B1 ⊢
  have hb1 : w.heap.size ≤ g1 := by omega
  rw [← hg1] at A1 R1 ⊢
  clear hg1
  clear hW1 B0
  refine wp_region_held_drew (S := (fun w' => BoxAt w' (g1) #[.slice f l c, .slice g m d] 69)) (by kernel_rfl) (A1.out.drew) (fun hS => ?_)
  refine tkR 0 3 (v := .pointer (some ⟨g1, 0, none⟩)) rfl hS (fun _ _ => by kernel_rfl) ?_
  refine tkR 1 4 (v := .pointer (some ⟨g1, 0, none⟩)) rfl hS (fun _ _ => by kernel_rfl) ?_
  refine tkR 2 5 (v := .slice f l c) rfl hS (fun _ h => run_ld1 22 (.tmp 4) g1 0 (by kernel_rfl) (by kernel_rfl) Try.underlying22 rfl ((h).get 0 (.slice f l c) rfl)) ?_
  refine tkR 4 7 (v := .pointer (some ⟨g1, 0, none⟩)) rfl hS (fun _ _ => by kernel_rfl) ?_
  refine tkR 5 8 (v := .pointer (some ⟨g1, 1, none⟩)) rfl hS (fun _ _ => by kernel_rfl) ?_
  refine tkR 6 9 (v := .slice g m d) rfl hS (fun _ h => run_ld1 23 (.tmp 8) g1 1 (by kernel_rfl) (by kernel_rfl) Try.underlying23 rfl ((h).get 1 (.slice g m d) rfl)) ?_
  try simp only [Act.put, List.setIfInBounds_toArray, List.set_cons_zero, List.set_cons_succ]
  refine wpAnyH_ready (rs := [3]) (by kernel_rfl) (by simp) ?_
  refine AllReadyH.cons (o := ⟨some 6, _, _, _, _, _⟩) rfl (fun K hK => ?_) AllReadyH.nil
  go_simp
  refine (HE.out _ (Below.drew B1.out)).mono ?_
  rintro e w2 ⟨f2, c2, rfl, hN2, hb2⟩
  have hz2 := hb2.size
  try simp at hz2
  have OE2 := Lib.hid (OwnR.mono hN2 (base' := w.heap.size) (by first | omega | (simp; done) | (simp; omega)))
  refine hK.out _ _ ?_ (fun hS' => ?_)
  · exact (hS.below hb2)
  clear hK K hS
  have hS := hS'
  clear hS'
  try simp only [Act.put, List.setIfInBounds_toArray, List.set_cons_zero, List.set_cons_succ]
  try simp only [Act.put, List.setIfInBounds_toArray, List.set_cons_zero, List.set_cons_succ]
  refine wpAnyH_ready (rs := [7]) (by kernel_rfl) (by simp) ?_
  refine AllReadyH.cons (o := ⟨some 10, _, _, _, _, _⟩) rfl (fun K hK => ?_) AllReadyH.nil
  go_simp
  refine (HD.out _ (bel_trans (Below.drew B1.out) hb2)).mono ?_
  rintro e w3 ⟨f3, c3, rfl, hN3, hb3⟩
  have hz3 := hb3.size
  try simp at hz3
  have OD3 := Lib.hid (OwnR.mono hN3 (base' := w.heap.size) (by first | omega | (simp; done) | (simp; omega)))
  refine hK.out _ _ ?_ (fun hS' => ?_)
  · exact (hS.below hb3)
  clear hK K hS
  have hS := hS'
  clear hS'
  try simp only [Act.put, List.setIfInBounds_toArray, List.set_cons_zero, List.set_cons_succ]
  refine tkR 8 11 (v := .agg #[.slice f2 l c2, .slice f3 m c3]) rfl hS (fun _ _ => by kernel_rfl) ?_
  try simp only [Act.put, List.setIfInBounds_toArray, List.set_cons_zero, List.set_cons_succ]
  refine wpAnyH_ready (rs := [9]) (by kernel_rfl) (by simp) ?_
  refine AllReadyH.cons (o := ⟨none, _, _, _, _, _⟩) rfl (fun K hK => ?_) AllReadyH.nil
  refine step_storeB rfl 25 _ _ rfl _ _ _ 25 rfl rfl (by kernel_rfl) (by rfl) (by simp [Value.oneCell']) (((R1.out.drew).below hb2).below hb3) ?_
  refine hK.out _ _ ?_ (fun hS' => ?_)
  · exact (hS.row (show g1 ≠ g1 + 1 by omega))
  clear hK K hS
  have hS := hS'
  clear hS'
  try simp only [Act.put]
  refine wpAnyH_done (by kernel_rfl) ?_ _
  try simp only [Act.put, List.setIfInBounds_toArray, List.set_cons_zero, List.set_cons_succ]
  have A4 := Lib.hid (((((A1.out.drew).below hb2).below hb3).row (cs' := #[.slice f2 l c2, .slice f3 m c3]) (show g1 ≠ g1 + 1 by omega)))
  have R4 := Lib.hid (((((R1.out.drew).below hb2).below hb3).put (cs' := #[.slice f2 l c2, .slice f3 m c3])))
  have E4 := Lib.hid (((OE2.out.below hb3).rowN (cs := #[.slice f2 l c2, .slice f3 m c3]) (OE2.out.ne_box ((R1.out.drew).below hb2) (by decide))))
  have D4 := Lib.hid ((OD3.out.rowN (cs := #[.slice f2 l c2, .slice f3 m c3]) (OD3.out.ne_box (((R1.out.drew).below hb2).below hb3) (by decide))))
  have B4 := Lib.hid ((Below.rowB (g := g1 + 1) (bel_trans (bel_trans (Below.drew B1.out) hb2) hb3) (cs := #[.slice f2 l c2, .slice f3 m c3]) (show w.heap.size ≤ g1 + 1 by omega)))
  obtain ⟨W4, hW4⟩ : ∃ W4, W4 = (w3).setRow (g1 + 1) #[.slice f2 l c2, .slice f3 m c3] := ⟨_, rfl⟩
  have hs4 : g1 + 1 + 1 ≤ W4.heap.size := by rw [hW4]; first | exact hs1 | omega | (simp; omega)
  rw [← hW4] at A4 R4 E4 D4 B4 ⊢
  clear hW4 A1 R1 OE2 OD3 B1 hs1
  go_wp2
  have RR := R4.out
  refine bodyPost_ret (v := .agg #[.slice f2 l c2, .slice f3 m c3]) (by simp [results, Try.results53, go_sem, RR.get 0 (.slice f2 l c2) rfl, RR.get 1 (.slice f3 m c3) rfl]) rfl ?_
  exact ⟨f2, c2, f3, c3, rfl, E4.out, D4.out, B4.out⟩
set_option maxRecDepth 100000 in
set_option maxHeartbeats 3200000 in
theorem twith_any (f g : Option Addr) (l c m d : Nat) (E : List Ety) (D : List Inv) (e : Ety) (w : World) (hE : RowsAt KE w f E) (hl : l = E.length) (hD : RowsAt KI w g D) (hm : m = D.length) (hls : l ≤ 90000) (hms : m ≤ 90000) (hf : f = none → c = 0) (hg : g = none → d = 0) :
    Calls Try.prog 49 #[.agg #[.slice f l c, .slice g m d], entV e] w fun r w' => ∃ f' l' c' g' d', r = .returned (.agg #[.slice f' l' c', .slice g' m d']) ∧ l' = (fill9 E e).length ∧ OwnR KE w' w.heap.size (.slice f' l' c') (fill9 E e) ∧ OwnR KI w' w.heap.size (.slice g' m d') D ∧ Below w.heap.size w w' := by
  have HC := Lib.hid (fun W (hB : Below w.heap.size w W) => tcopied_any f g l c m d E D W (hE.below hB) hl (hD.below hB) hm hls hms hf hg)
  have HN := Lib.hid hl
  unfold fill9
  rw [← hl]
  unfold EndT at HC
  rw [← hl, ← hm] at HC
  clear hE hl hD hm hf hg
  obtain ⟨b1, hqb⟩ : ∃ b1, b1 = decide (0 ≤ inE E e) := ⟨_, rfl⟩
  have HB1 := Lib.hid hqb
  obtain ⟨F, hF⟩ : ∃ F, F = (if inE E e < 0 ∧ l < 8 then E ++ [e] else E) := ⟨_, rfl⟩
  rw [← hF]
  have HF0 := Lib.hid hF
  clear hF
  unfold entV entC
  have htw : w.heap.size ≤ w.heap.size := Nat.le_refl _
  have B0 := Lib.hid (Below.refl w.heap.size w)
  go_enter Try.func49, Try.ntmps49
  go_upto_region 1 with fail
  have A1 := Lib.hid ((((BoxAt.newAt (w) #[.slice f l c, .slice g m d] 69 (w.heap.size) (by first | omega | (simp; done) | (simp; omega))).alloc (.cells #[.int .i64 e.k, .int .i64 e.vm, .int .i64 e.sp, .bool e.al, .int .i64 e.pg, .int .i64 e.lv, .int .i64 e.fr, .int .i64 e.mi, .bool e.t.r, .bool e.t.w, .bool e.t.x, .bool e.t.a, .bool e.t.n, .int .i64 e.t.s] 34)).alloc (.cells #[.slice none 0 0, .slice none 0 0] 25)))
  have X1 := Lib.hid (((BoxAt.newAt ((w).alloc (.cells #[.slice f l c, .slice g m d] 69)) #[.int .i64 e.k, .int .i64 e.vm, .int .i64 e.sp, .bool e.al, .int .i64 e.pg, .int .i64 e.lv, .int .i64 e.fr, .int .i64 e.mi, .bool e.t.r, .bool e.t.w, .bool e.t.x, .bool e.t.a, .bool e.t.n, .int .i64 e.t.s] 34 (w.heap.size + 1) (by first | omega | (simp; done) | (simp; omega))).alloc (.cells #[.slice none 0 0, .slice none 0 0] 25)))
  have R1 := Lib.hid ((BoxAt.newAt (((w).alloc (.cells #[.slice f l c, .slice g m d] 69)).alloc (.cells #[.int .i64 e.k, .int .i64 e.vm, .int .i64 e.sp, .bool e.al, .int .i64 e.pg, .int .i64 e.lv, .int .i64 e.fr, .int .i64 e.mi, .bool e.t.r, .bool e.t.w, .bool e.t.x, .bool e.t.a, .bool e.t.n, .int .i64 e.t.s] 34)) #[.slice none 0 0, .slice none 0 0] 25 (w.heap.size + 1 + 1) (by first | omega | (simp; done) | (simp; omega))))
  have B1 := Lib.hid ((bel_alloc (bel_alloc (bel_alloc B0.out (.cells #[.slice f l c, .slice g m d] 69)) (.cells #[.int .i64 e.k, .int .i64 e.vm, .int .i64 e.sp, .bool e.al, .int .i64 e.pg, .int .i64 e.lv, .int .i64 e.fr, .int .i64 e.mi, .bool e.t.r, .bool e.t.w, .bool e.t.x, .bool e.t.a, .bool e.t.n, .int .i64 e.t.s] 34)) (.cells #[.slice none 0 0, .slice none 0 0] 25)))
  obtain ⟨g1, hg1⟩ : ∃ g1, g1 = w.heap.size := ⟨_, rfl⟩
  obtain ⟨W1, hW1⟩ : ∃ W1, W1 = (((w).alloc (.cells #[.slice f l c, .slice g m d] 69)).alloc (.cells #[.int .i64 e.k, .int .i64 e.vm, .int .i64 e.sp, .bool e.al, .int .i64 e.pg, .int .i64 e.lv, .int .i64 e.fr, .int .i64 e.mi, .bool e.t.r, .bool e.t.w, .bool e.t.x, .bool e.t.a, .bool e.t.n, .int .i64 e.t.s] 34)).alloc (.cells #[.slice none 0 0, .slice none 0 0] 25) := ⟨_, rfl⟩
  have hs1 : g1 + 1 + 1 + 1 ≤ W1.heap.size := by rw [hW1, hg1]; simp
  rw [← hW1] at A1 X1 R1 B1 ⊢
  have hb1 : w.heap.size ≤ g1 := by omega
  rw [← hg1] at A1 X1 R1 ⊢
  clear hg1
  clear hW1 B0
  have Ac0 := A1.out.get 0 (.slice f l c) rfl
  have Ac1 := A1.out.get 1 (.slice g m d) rfl
  go_wp2_with fail
  refine (HC.out _ B1.out).mono ?_
  rintro e w2 ⟨f2, c2, g2, d2, rfl, hE2, hD2, hb2⟩
  have OE2 := Lib.hid (OwnR.mono hE2 (base' := w.heap.size) (by first | omega | (simp; done) | (simp; omega)))
  have OD2 := Lib.hid (OwnR.mono hD2 (base' := w.heap.size) (by first | omega | (simp; done) | (simp; omega)))
  skip
  clear hE2 hD2
  have hz2 := hb2.size
  have A2 := Lib.hid (A1.out.below hb2)
  have X2 := Lib.hid (X1.out.below hb2)
  have R2 := Lib.hid (R1.out.below hb2)
  have B2 := Lib.hid (bel_trans B1.out hb2)
  skip
  have hs2 : g1 + 1 + 1 + 1 ≤ w2.heap.size := by omega
  clear Ac0 Ac1
  clear A1 X1 R1 B1 hs1 hb2 hz2
  go_upto_region 2 with fail
  have A3 := Lib.hid ((A2.out.alloc (.cells #[.slice f2 l c2, .slice g2 m d2] 25)))
  have X3 := Lib.hid ((X2.out.alloc (.cells #[.slice f2 l c2, .slice g2 m d2] 25)))
  have R3 := Lib.hid ((R2.out.alloc (.cells #[.slice f2 l c2, .slice g2 m d2] 25)))
  have T3 := Lib.hid ((BoxAt.newAt (w2) #[.slice f2 l c2, .slice g2 m d2] 25 (w2.heap.size) (by first | omega | (simp; done) | (simp; omega))))
  have E3 := Lib.hid ((OE2.out.alloc (.cells #[.slice f2 l c2, .slice g2 m d2] 25)))
  have D3 := Lib.hid ((OD2.out.alloc (.cells #[.slice f2 l c2, .slice g2 m d2] 25)))
  have B3 := Lib.hid ((bel_alloc B2.out (.cells #[.slice f2 l c2, .slice g2 m d2] 25)))
  obtain ⟨g3, hg3⟩ : ∃ g3, g3 = w2.heap.size := ⟨_, rfl⟩
  obtain ⟨W3, hW3⟩ : ∃ W3, W3 = (w2).alloc (.cells #[.slice f2 l c2, .slice g2 m d2] 25) := ⟨_, rfl⟩
  have hs3 : g3 + 1 ≤ W3.heap.size := by rw [hW3, hg3]; simp
  rw [← hW3] at A3 X3 R3 T3 E3 D3 B3 ⊢
  have hb3 : g1 + 1 + 1 + 1 ≤ g3 := by omega
  rw [← hg3] at T3 ⊢
  clear hg3
  clear hW3 A2 X2 R2 OE2 OD2 B2 hs2
  have Tc0 := T3.out.get 0 (.slice f2 l c2) rfl
  by_cases hl8 : l < 8
  rotate_left
  · have dl8 : decide ((l : Int) < 8) = false := decide_eq_false (by omega)
    have HF := Lib.hid (show E = F from by rw [HF0.out, if_neg (fun h => hl8 h.2)])
    have Tc1 := T3.out.get 1 (.slice g2 m d2) rfl
    go_wp2_with (refine wpList_storeB rfl 25 _ _ rfl (g1 + 1 + 1) #[.slice f2 l c2, .slice g2 m d2] _ 25 rfl rfl (by kernel_rfl) (by rfl) (by simp [Value.oneCell']) R3.out ?_)
    have RR := (R3.out.put (cs' := #[.slice f2 l c2, .slice g2 m d2]))
    refine bodyPost_ret (v := .agg #[.slice f2 l c2, .slice g2 m d2]) (by simp [results, Try.results49, go_sem, RR.get 0 (.slice f2 l c2) rfl, RR.get 1 (.slice g2 m d2) rfl]) rfl ?_
    rw [← HF.out]
    exact ⟨f2, l, c2, g2, d2, rfl, HN.out, (E3.out.rowN (cs := #[.slice f2 l c2, .slice g2 m d2]) (E3.out.ne_box R3.out (by decide))), (D3.out.rowN (cs := #[.slice f2 l c2, .slice g2 m d2]) (D3.out.ne_box R3.out (by decide))), (Below.rowB (g := g1 + 1 + 1) B3.out (cs := #[.slice f2 l c2, .slice g2 m d2]) (show w.heap.size ≤ g1 + 1 + 1 by omega))⟩
  have dl8 : decide ((l : Int) < 8) = true := decide_eq_true (by omega)
  have Xc0 := X3.out.get 0 (.int .i64 e.k) rfl
  have Xc1 := X3.out.get 1 (.int .i64 e.vm) rfl
  have Xc2 := X3.out.get 2 (.int .i64 e.sp) rfl
  have Xc3 := X3.out.get 3 (.bool e.al) rfl
  have Xc4 := X3.out.get 4 (.int .i64 e.pg) rfl
  have Xc5 := X3.out.get 5 (.int .i64 e.lv) rfl
  have Xc6 := X3.out.get 6 (.int .i64 e.fr) rfl
  have Xc7 := X3.out.get 7 (.int .i64 e.mi) rfl
  have Xc8 := X3.out.get 8 (.bool e.t.r) rfl
  have Xc9 := X3.out.get 9 (.bool e.t.w) rfl
  have Xc10 := X3.out.get 10 (.bool e.t.x) rfl
  have Xc11 := X3.out.get 11 (.bool e.t.a) rfl
  have Xc12 := X3.out.get 12 (.bool e.t.n) rfl
  have Xc13 := X3.out.get 13 (.int .i64 e.t.s) rfl
  go_wp2_with fail
  refine (tcont_any f2 l c2 E e _ (E3.out).rows.2 HN.out (by omega)).mono ?_
  rintro e w4 ⟨rfl, hb4⟩
  skip
  have hz4 := hb4.size
  have A4 := Lib.hid (A3.out.below hb4)
  have X4 := Lib.hid (X3.out.below hb4)
  have R4 := Lib.hid (R3.out.below hb4)
  have T4 := Lib.hid (T3.out.below hb4)
  have E4 := Lib.hid (E3.out.below hb4)
  have D4 := Lib.hid (D3.out.below hb4)
  have B4 := Lib.hid (bel_trans B3.out hb4)
  skip
  have hs4 : g3 + 1 ≤ w4.heap.size := by omega
  clear Tc0 Xc0 Xc1 Xc2 Xc3 Xc4 Xc5 Xc6 Xc7 Xc8 Xc9 Xc10 Xc11 Xc12 Xc13
  clear A3 X3 R3 T3 E3 D3 B3 hs3 hb4 hz4
  rw [← hqb]
  clear hqb
  cases b1
  · have HF := Lib.hid (show E ++ [e] = F from by rw [HF0.out, if_pos ⟨by have := HB1.out; simp at this; omega, hl8⟩])
    have Tc0 := T4.out.get 0 (.slice f2 l c2) rfl
    have Xc0 := X4.out.get 0 (.int .i64 e.k) rfl
    have Xc1 := X4.out.get 1 (.int .i64 e.vm) rfl
    have Xc2 := X4.out.get 2 (.int .i64 e.sp) rfl
    have Xc3 := X4.out.get 3 (.bool e.al) rfl
    have Xc4 := X4.out.get 4 (.int .i64 e.pg) rfl
    have Xc5 := X4.out.get 5 (.int .i64 e.lv) rfl
    have Xc6 := X4.out.get 6 (.int .i64 e.fr) rfl
    have Xc7 := X4.out.get 7 (.int .i64 e.mi) rfl
    have Xc8 := X4.out.get 8 (.bool e.t.r) rfl
    have Xc9 := X4.out.get 9 (.bool e.t.w) rfl
    have Xc10 := X4.out.get 10 (.bool e.t.x) rfl
    have Xc11 := X4.out.get 11 (.bool e.t.a) rfl
    have Xc12 := X4.out.get 12 (.bool e.t.n) rfl
    have Xc13 := X4.out.get 13 (.int .i64 e.t.s) rfl
    go_upto_region 4 with (at_builtin; refine wpList_pushRl (K := KE) rfl _ _ rfl w.heap.size l _ E rfl (E4.out.alloc (.cells #[.int .i64 e.k, .int .i64 e.vm, .int .i64 e.sp, .bool e.al, .int .i64 e.pg, .int .i64 e.lv, .int .i64 e.fr, .int .i64 e.mi, .bool e.t.r, .bool e.t.w, .bool e.t.x, .bool e.t.a, .bool e.t.n, .int .i64 e.t.s] 34)) HN.out (w4.heap.size) 1 e rfl (fun i _ => ((BoxAt.newAt (w4) #[.int .i64 e.k, .int .i64 e.vm, .int .i64 e.sp, .bool e.al, .int .i64 e.pg, .int .i64 e.lv, .int .i64 e.fr, .int .i64 e.mi, .bool e.t.r, .bool e.t.w, .bool e.t.x, .bool e.t.a, .bool e.t.n, .int .i64 e.t.s] 34 (w4.heap.size) (by first | omega | (simp; done) | (simp; omega)))).cell i) (by omega) (by first | omega | (simp; omega)) ?_; intro f5a c5a w5 hO5 hg5; clear X4; clear Tc0 Xc0 Xc1 Xc2 Xc3 Xc4 Xc5 Xc6 Xc7 Xc8 Xc9 Xc10 Xc11 Xc12 Xc13; have hz5 := hg5.size; try simp at hz5; have A5 := Lib.hid ((A4.out.alloc (.cells #[.int .i64 e.k, .int .i64 e.vm, .int .i64 e.sp, .bool e.al, .int .i64 e.pg, .int .i64 e.lv, .int .i64 e.fr, .int .i64 e.mi, .bool e.t.r, .bool e.t.w, .bool e.t.x, .bool e.t.a, .bool e.t.n, .int .i64 e.t.s] 34)).grown hg5 ((E4.out.alloc (.cells #[.int .i64 e.k, .int .i64 e.vm, .int .i64 e.sp, .bool e.al, .int .i64 e.pg, .int .i64 e.lv, .int .i64 e.fr, .int .i64 e.mi, .bool e.t.r, .bool e.t.w, .bool e.t.x, .bool e.t.a, .bool e.t.n, .int .i64 e.t.s] 34)).ne_box (A4.out.alloc (.cells #[.int .i64 e.k, .int .i64 e.vm, .int .i64 e.sp, .bool e.al, .int .i64 e.pg, .int .i64 e.lv, .int .i64 e.fr, .int .i64 e.mi, .bool e.t.r, .bool e.t.w, .bool e.t.x, .bool e.t.a, .bool e.t.n, .int .i64 e.t.s] 34)) (by decide))); have R5 := Lib.hid ((R4.out.alloc (.cells #[.int .i64 e.k, .int .i64 e.vm, .int .i64 e.sp, .bool e.al, .int .i64 e.pg, .int .i64 e.lv, .int .i64 e.fr, .int .i64 e.mi, .bool e.t.r, .bool e.t.w, .bool e.t.x, .bool e.t.a, .bool e.t.n, .int .i64 e.t.s] 34)).grown hg5 ((E4.out.alloc (.cells #[.int .i64 e.k, .int .i64 e.vm, .int .i64 e.sp, .bool e.al, .int .i64 e.pg, .int .i64 e.lv, .int .i64 e.fr, .int .i64 e.mi, .bool e.t.r, .bool e.t.w, .bool e.t.x, .bool e.t.a, .bool e.t.n, .int .i64 e.t.s] 34)).ne_box (R4.out.alloc (.cells #[.int .i64 e.k, .int .i64 e.vm, .int .i64 e.sp, .bool e.al, .int .i64 e.pg, .int .i64 e.lv, .int .i64 e.fr, .int .i64 e.mi, .bool e.t.r, .bool e.t.w, .bool e.t.x, .bool e.t.a, .bool e.t.n, .int .i64 e.t.s] 34)) (by decide))); have T5 := Lib.hid ((T4.out.alloc (.cells #[.int .i64 e.k, .int .i64 e.vm, .int .i64 e.sp, .bool e.al, .int .i64 e.pg, .int .i64 e.lv, .int .i64 e.fr, .int .i64 e.mi, .bool e.t.r, .bool e.t.w, .bool e.t.x, .bool e.t.a, .bool e.t.n, .int .i64 e.t.s] 34)).grown hg5 ((E4.out.alloc (.cells #[.int .i64 e.k, .int .i64 e.vm, .int .i64 e.sp, .bool e.al, .int .i64 e.pg, .int .i64 e.lv, .int .i64 e.fr, .int .i64 e.mi, .bool e.t.r, .bool e.t.w, .bool e.t.x, .bool e.t.a, .bool e.t.n, .int .i64 e.t.s] 34)).ne_box (T4.out.alloc (.cells #[.int .i64 e.k, .int .i64 e.vm, .int .i64 e.sp, .bool e.al, .int .i64 e.pg, .int .i64 e.lv, .int .i64 e.fr, .int .i64 e.mi, .bool e.t.r, .bool e.t.w, .bool e.t.x, .bool e.t.a, .bool e.t.n, .int .i64 e.t.s] 34)) (by decide))); have E5 := Lib.hid (hO5); have D5o := Lib.hid ((D4.out.alloc (.cells #[.int .i64 e.k, .int .i64 e.vm, .int .i64 e.sp, .bool e.al, .int .i64 e.pg, .int .i64 e.lv, .int .i64 e.fr, .int .i64 e.mi, .bool e.t.r, .bool e.t.w, .bool e.t.x, .bool e.t.a, .bool e.t.n, .int .i64 e.t.s] 34)).grownO (E4.out.alloc (.cells #[.int .i64 e.k, .int .i64 e.vm, .int .i64 e.sp, .bool e.al, .int .i64 e.pg, .int .i64 e.lv, .int .i64 e.fr, .int .i64 e.mi, .bool e.t.r, .bool e.t.w, .bool e.t.x, .bool e.t.a, .bool e.t.n, .int .i64 e.t.s] 34)) (by decide) hg5); have B5 := Lib.hid ((bel_alloc B4.out (.cells #[.int .i64 e.k, .int .i64 e.vm, .int .i64 e.sp, .bool e.al, .int .i64 e.pg, .int .i64 e.lv, .int .i64 e.fr, .int .i64 e.mi, .bool e.t.r, .bool e.t.w, .bool e.t.x, .bool e.t.a, .bool e.t.n, .int .i64 e.t.s] 34)).grown hg5 (show w.heap.size ≤ _ by first | omega | (simp; omega)) (fun k hk => Nat.le_trans (show w.heap.size ≤ w.heap.size by omega) ((E4.out.alloc (.cells #[.int .i64 e.k, .int .i64 e.vm, .int .i64 e.sp, .bool e.al, .int .i64 e.pg, .int .i64 e.lv, .int .i64 e.fr, .int .i64 e.mi, .bool e.t.r, .bool e.t.w, .bool e.t.x, .bool e.t.a, .bool e.t.n, .int .i64 e.t.s] 34)).blk k hk))); have hs5 : g3 + 1 ≤ w5.heap.size := (by omega); clear A4 R4 T4 E4 D4 B4 hg5 hO5 hz5 hs4; have Tc0 := T5.out.get 0 (.slice f2 l c2) rfl; have Tz0 := T5.out.free 0)
    clear Tc0 Tz0
    have A6 := Lib.hid ((A5.out.other ⟨g3, 0, none⟩ (.slice f5a (l + 1) c5a) (show g1 ≠ g3 by omega)))
    have R6 := Lib.hid ((R5.out.other ⟨g3, 0, none⟩ (.slice f5a (l + 1) c5a) (show g1 + 1 + 1 ≠ g3 by omega)))
    have T6 := Lib.hid ((T5.out.set 0 (.slice f5a (l + 1) c5a) #[.slice f5a (l + 1) c5a, .slice g2 m d2] rfl))
    have E6 := Lib.hid ((E5.out.otherN ⟨g3, 0, none⟩ (.slice f5a (l + 1) c5a) (E5.out.ne_box T5.out (by decide))))
    have D6 := Lib.hid ((D5o.out.otherN ⟨g3, 0, none⟩ (.slice f5a (l + 1) c5a) (D5o.out.ne_box T5.out (by decide))))
    have B6 := Lib.hid ((Below.setCell B5.out (p := ⟨g3, 0, none⟩) (show w.heap.size ≤ g3 by omega) (.slice f5a (l + 1) c5a)))
    obtain ⟨W6, hW6⟩ : ∃ W6, W6 = (w5).setCell ⟨g3, 0, none⟩ (.slice f5a (l + 1) c5a) := ⟨_, rfl⟩
    have hs6 : g3 + 1 ≤ W6.heap.size := by rw [hW6]; first | (simp [World.setCell]; omega) | (simp [World.setCell, World.setRow]; omega) | exact hs5
    rw [← hW6] at A6 R6 T6 E6 D6 B6 ⊢
    clear hW6 A5 R5 T5 E5 D5o B5 hs5
    have Tc0 := T6.out.get 0 (.slice f5a (l + 1) c5a) rfl
    have Tc1 := T6.out.get 1 (.slice g2 m d2) rfl
    go_wp2_with (refine wpList_storeB rfl 25 _ _ rfl (g1 + 1 + 1) #[.slice f5a (l + 1) c5a, .slice g2 m d2] _ 25 rfl rfl (by kernel_rfl) (by rfl) (by simp [Value.oneCell']) R6.out ?_)
    have RR := (R6.out.put (cs' := #[.slice f5a (l + 1) c5a, .slice g2 m d2]))
    refine bodyPost_ret (v := .agg #[.slice f5a (l + 1) c5a, .slice g2 m d2]) (by simp [results, Try.results49, go_sem, RR.get 0 (.slice f5a (l + 1) c5a) rfl, RR.get 1 (.slice g2 m d2) rfl]) rfl ?_
    rw [← HF.out]
    exact ⟨f5a, l + 1, c5a, g2, d2, rfl, by simp; exact HN.out, (E6.out.rowN (cs := #[.slice f5a (l + 1) c5a, .slice g2 m d2]) (E6.out.ne_box R6.out (by decide))), (D6.out.rowN (cs := #[.slice f5a (l + 1) c5a, .slice g2 m d2]) (D6.out.ne_box R6.out (by decide))), (Below.rowB (g := g1 + 1 + 1) B6.out (cs := #[.slice f5a (l + 1) c5a, .slice g2 m d2]) (show w.heap.size ≤ g1 + 1 + 1 by omega))⟩
  have HF := Lib.hid (show E = F from by rw [HF0.out, if_neg (fun h => by have := HB1.out; simp at this; omega)])
  have Tc0 := T4.out.get 0 (.slice f2 l c2) rfl
  have Tc1 := T4.out.get 1 (.slice g2 m d2) rfl
  go_wp2_with (refine wpList_storeB rfl 25 _ _ rfl (g1 + 1 + 1) #[.slice f2 l c2, .slice g2 m d2] _ 25 rfl rfl (by kernel_rfl) (by rfl) (by simp [Value.oneCell']) R4.out ?_)
  have RR := (R4.out.put (cs' := #[.slice f2 l c2, .slice g2 m d2]))
  refine bodyPost_ret (v := .agg #[.slice f2 l c2, .slice g2 m d2]) (by simp [results, Try.results49, go_sem, RR.get 0 (.slice f2 l c2) rfl, RR.get 1 (.slice g2 m d2) rfl]) rfl ?_
  rw [← HF.out]
  exact ⟨f2, l, c2, g2, d2, rfl, HN.out, (E4.out.rowN (cs := #[.slice f2 l c2, .slice g2 m d2]) (E4.out.ne_box R4.out (by decide))), (D4.out.rowN (cs := #[.slice f2 l c2, .slice g2 m d2]) (D4.out.ne_box R4.out (by decide))), (Below.rowB (g := g1 + 1 + 1) B4.out (cs := #[.slice f2 l c2, .slice g2 m d2]) (show w.heap.size ≤ g1 + 1 + 1 by omega))⟩
set_option maxRecDepth 100000 in
set_option maxHeartbeats 3200000 in
theorem tdel_any (f : Option Addr) (l c i j base : Nat) (E : List Ety) (w : World) (hO : OwnR KE w base (.slice f l c) E) (hl : l = E.length) (hi : i < l) (hj : j = i + 1) (hls : l ≤ 90000) :
    Calls Try.prog 54 #[.slice f l c, .int .i64 i, .int .i64 j] w fun r w' => r = .returned (.slice f (i + (l - j)) c) ∧ OwnR KE w' base (.slice f (i + (l - j)) c) (drop9 E i) ∧ w.grownBy w' (Value.slice f l c).ownBlock := by
  subst hj
  obtain ⟨g, rfl, hbg, hgs, _⟩ := hO.there (by omega)
  obtain ⟨hlc, hcm⟩ := hO.room
  have hML : l - (i + 1) = (E.drop (i + 1)).length := by rw [List.length_drop]; omega
  have hR := hO.rows.2
  obtain ⟨A, hA, hsrc⟩ : ∃ A : Addr, (if c = i + 1 then (some ⟨g, 0, none⟩ : Option Addr) else some ⟨g, 0 + (i + 1) * 14, none⟩) = some A ∧ Hid (∀ t u, (rcells KE (E.drop (i + 1)))[t]? = some u → w.drew.cell? (A.add t) = some u) := by
    by_cases h : c = i + 1
    · refine ⟨⟨g, 0, none⟩, if_pos h, fun t u hu => ?_⟩
      rw [List.drop_eq_nil_of_le (by omega)] at hu
      simp [rcells] at hu
    · refine ⟨⟨g, 0 + (i + 1) * 14, none⟩, if_neg h, fun t u hu => ?_⟩
      have ht : t < (E.drop (i + 1)).length * 14 := by
        have := (List.getElem?_eq_some_iff.1 hu).1
        rwa [rcells_length] at this
      have hq : t / 14 < (E.drop (i + 1)).length := Nat.div_lt_of_lt_mul (by omega)
      have hx : (E.drop (i + 1))[t / 14]? = some (E.drop (i + 1))[t / 14] := List.getElem?_eq_getElem hq
      have hdm : t = t / 14 * 14 + t % 14 := by omega
      have hc := rcells_get KE (E.drop (i + 1)) (t / 14) _ hx (t % 14) (Nat.mod_lt _ (by decide))
      rw [show t / 14 * KE.N + t % 14 = t from hdm.symm] at hc
      rw [hc] at hu
      obtain ⟨b, o, he, hr⟩ := (hR.from' (i + 1)) (t / 14) _ hx
      simp only [Option.some.injEq, Addr.mk.injEq, and_true] at he
      obtain ⟨rfl, rfl⟩ := he
      have h3 := hr.c (t % 14) (Nat.mod_lt _ (by decide))
      rw [Addr.add_lit, show 0 + (i + 1) * 14 + t = 0 + (i + 1) * KE.N + t / 14 * KE.N + t % 14 from by show 0 + (i + 1) * 14 + t = 0 + (i + 1) * 14 + t / 14 * 14 + t % 14; omega]
      exact h3.trans hu
  have s1 := Lib.hid (show (rcells KE (E.drop (i + 1))).length = (l - (i + 1)) * 14 from by rw [hML]; exact rcells_length KE _)
  have s2 := Lib.hid (rcells_one KE (E.drop (i + 1)))
  have s3 : Hid (∀ t, t < (rcells KE (E.drop (i + 1))).length → (w.drew.cell? ⟨g, 0 + i * 14 + t, none⟩).isSome = true ∧ w.drew.frozen? ⟨g, 0 + i * 14 + t, none⟩ = false) := by
    intro t ht
    rw [s1.out] at ht
    exact hO.cell (0 + i * 14 + t) (by show 0 + i * 14 + t < c * 14; omega)
  have O1 : Hid (OwnR KE (w.drew.setCells g (0 + i * 14) (rcells KE (E.drop (i + 1)))) base (.slice (some ⟨g, 0, none⟩) (i + (l - (i + 1))) c) (drop9 E i)) := by
    have := (hO.drew).laid i (E.drop (i + 1)) (by omega) (by omega)
    rw [← hML] at this
    rw [Nat.zero_add]
    exact this
  have G1 : Hid (w.grownBy (w.drew.setCells g (0 + i * 14) (rcells KE (E.drop (i + 1)))) (some g)) := by
    have h1 := grownBy_setCells (w := w.drew) (g := g) (rcells KE (E.drop (i + 1))) (0 + i * 14)
    exact ⟨h1.os, h1.tape, h1.output, h1.size, h1.block⟩
  obtain ⟨W1, hW1⟩ : ∃ W1, W1 = w.drew.setCells g (0 + i * 14) (rcells KE (E.drop (i + 1))) := ⟨_, rfl⟩
  rw [← hW1] at O1 G1
  obtain ⟨zs, hzs⟩ : ∃ zs, zs = KE.z.cells.toList := ⟨_, rfl⟩
  have hzl : zs.length = 14 := by rw [hzs]; rfl
  have O2 := Lib.hid (O1.out.past zs (by show (i + (l - (i + 1))) * 14 + zs.length ≤ c * 14; omega))
  have G2 : Hid (w.grownBy (W1.setCells g ((i + (l - (i + 1))) * KE.N) zs) (some g)) := by
    exact G1.out.trans (grownBy_setCells zs _)
  have hcl : ∀ ty, (Builtin.clear_ #[22] ty #[.slice (some ⟨g, 0 + (i + (l - (i + 1))) * 14, none⟩) (l - (i + (l - (i + 1)))) (c - (i + (l - (i + 1))))]).run Try.prog W1 = .ok (.tuple #[]) (W1.setCells g ((i + (l - (i + 1))) * KE.N) zs) := by
    intro ty
    have hst := run_storeCells_cells (P := Try.prog) g ((i + (l - (i + 1))) * 14) zs 0 W1 (fun j hj => (O1.out.cell _ (by show (i + (l - (i + 1))) * 14 + 0 + j < c * 14; omega)).1) (fun j hj => (O1.out.cell _ (by show (i + (l - (i + 1))) * 14 + 0 + j < c * 14; omega)).2) (by rw [hzs]; decide)
    simp only [Nat.add_zero] at hst
    rw [show l - (i + (l - (i + 1))) = 0 + 1 by omega, Nat.zero_add ((i + (l - (i + 1))) * 14)]
    have hzv : ∀ w : World, (zeroValue 34).run Try.prog w = .ok KE.z w := fun w => rfl
    have hzc : (Builtin.zeroCells KE.z.cells 1).toList = zs := by rw [hzs]; kernel_rfl
    simp [Builtin.clear_, run_underlying Try.underlying22, hzv, hzc, hst]
    rfl
  have hne : ((i : Int) == ((i + 1 : Nat) : Int)) = false := by simp; omega
  have hic : i ≤ c := by omega
  have hW : Hid (W1 = w.drew.setCells g (0 + i * 14) (rcells KE (E.drop (i + 1)))) := hW1
  show Calls Try.prog 54 #[.slice (some ⟨g, 0, none⟩) l c, .int .i64 i, .int .i64 ((i + 1 : Nat) : Int)] w _
  obtain ⟨j, hj⟩ : ∃ j, j = i + 1 := ⟨_, rfl⟩
  have hj1 : i < j := by omega
  have hj2 : j ≤ l := by omega
  have hjc : j ≤ c := by omega
  rw [← hj] at s1 hsrc s2 s3 O2 G2 hcl hA hW hne ⊢
  simp only [Nat.zero_add] at hA hcl
  clear hW1 hO hR hML hj hl hzs
  go_enter Try.func54, Try.ntmps54
  go_wp2_with fail
  go_region_law (refine step_append_room rfl (.tmp 22) (.tmp 25) 22 rfl 34 _ 14 Try.underlying22 (by rfl) rfl g 0 i c (by simp [Act.eval, Act.put]) A (l - j) (c - j) (rcells KE (E.drop j)) (by simp [Act.eval, Act.put, hA]) s1.out hsrc.out s2.out (by omega) s3.out ?_; rw [← hW.out])
  go_wp2
  go_ret
  exact ⟨rfl, O2.out, G2.out⟩
end Go.Proofs.Ytcbjmpllmnphkaa
