/- Contracts of the program's functions, part 5: own work, joined in build order. -/
import Derived.Test.YtbnbgikhdfbpcaaDoorJ4
namespace Go.Proofs.YtbnbgikhdfbpcaaDoor
open Go.RowKit
set_option maxRecDepth 100000
set_option linter.unusedVariables false
/-- v lies in the m-th slot. -/
def putXW (xs : List (Option ByteArray × Int)) (m : Nat) (v : ByteArray) : List (Option ByteArray × Int) := if m < xs.length then xs.set m (some v, (xs.getD m (none, 0)).2 + 1) else xs ++ [(some v, (xs.getD m (none, 0)).2 + 1)]
theorem vac_leW {n : Nat} {last : Int} {xs : List (Option ByteArray × Int)} {m : Nat} (h : Least (VacW n last xs) m) : m ≤ xs.length ∧ m < n := by
  have h1 := h.1
  unfold VacW at h1
  refine ⟨?_, h1.1⟩
  rcases Nat.lt_or_ge xs.length m with h2 | h2
  · have := h.2 xs.length ⟨by omega, .inl (Nat.le_refl _)⟩
    omega
  · exact h2
theorem getD_snocW {α : Type} (xs : List α) (v z : α) (j : Nat) : (xs ++ [v]).getD j z = if j = xs.length then v else xs.getD j z := by
  simp only [List.getD_eq_getElem?_getD]
  rcases Nat.lt_trichotomy j xs.length with h | h | h
  · rw [List.getElem?_append_left h, if_neg (by omega)]
  · subst h; simp
  · rw [List.getElem?_append_right (by omega), if_neg (by omega), List.getElem?_eq_none (l := xs) (by omega), List.getElem?_eq_none (by simp; omega)]
theorem putX_lenW (xs : List (Option ByteArray × Int)) (m : Nat) (v : ByteArray) (h : m ≤ xs.length) : (putXW xs m v).length = if m < xs.length then xs.length else xs.length + 1 := by
  unfold putXW
  split <;> simp
theorem putX_atW (xs : List (Option ByteArray × Int)) (m : Nat) (v : ByteArray) (h : m ≤ xs.length) (j : Nat) : (putXW xs m v).getD j (none, 0) = if j = m then (some v, (xs.getD m (none, 0)).2 + 1) else xs.getD j (none, 0) := by
  unfold putXW
  split
  · rw [getD_setW _ _ _ _ (by assumption)]
  · rw [getD_snocW]
    have e : m = xs.length := by omega
    rw [e]
theorem vac_putW {n : Nat} {last : Int} {xs : List (Option ByteArray × Int)} {m : Nat} (h : Least (VacW n last xs) m) (v : ByteArray) (j : Nat) : VacW n last (putXW xs m v) j ↔ (VacW n last xs j ∧ j ≠ m) := by
  obtain ⟨h1, h2⟩ := vac_leW h
  unfold VacW
  rw [putX_atW _ _ _ h1, putX_lenW _ _ _ h1]
  by_cases e : j = m
  · subst e
    rw [if_pos rfl]
    simp
    intro _
    split <;> omega
  · rw [if_neg e]
    simp only [ne_eq, e, not_false_eq_true, and_true]
    constructor
    · rintro ⟨a, b | b⟩
      · refine ⟨a, .inl ?_⟩
        split at b <;> omega
      · exact ⟨a, .inr b⟩
    · rintro ⟨a, b | b⟩
      · refine ⟨a, .inl ?_⟩
        split <;> omega
      · exact ⟨a, .inr b⟩
theorem count_putW {xs : List (Option ByteArray × Int)} {m : Nat} (hm : m ≤ xs.length) (hn : m < xs.length → (xs.getD m (none, 0)).1 = none) (v : ByteArray) : (putXW xs m v).countP (fun x => x.1.isSome) = xs.countP (fun x => x.1.isSome) + 1 := by
  unfold putXW
  split
  · rename_i hl
    have h1 := List.countP_set (p := fun x : Option ByteArray × Int => x.1.isSome) (a := ((some v, (xs.getD m (none, 0)).2 + 1) : Option ByteArray × Int)) hl
    have h2 : xs[m].1 = none := by
      have := hn hl
      rw [List.getD_eq_getElem?_getD, List.getElem?_eq_getElem hl] at this
      exact this
    rw [h1, h2]
    simp
  · simp [List.countP_append]
set_option maxHeartbeats 1000000 in
theorem putW_no {w : World} {sb lb n : Nat} {last : Int} {cnt : Nat} {xs : List (Option ByteArray × Int)} (h : SlW w sb lb n last cnt xs) (v : ByteArray) (hv : ∀ i, ¬ VacW n last xs i) :
    Calls Tryd.prog 25 #[.pointer (some ⟨sb, 0, none⟩), Value.string v] w fun e w' => e = .returned (.tuple #[.agg #[.int .i64 0, .int .i64 0], .int .i64 61]) ∧ Below w.heap.size w w' := by
  obtain ⟨r, g, N, f, b, L, cap, G, ys, h⟩ := h
  obtain ⟨W, hW⟩ : ∃ W, W = w.alloc (.cells #[.int .i64 0, .int .i64 0] 38) := ⟨_, rfl⟩
  obtain ⟨z, ez⟩ : ∃ z, z = w.heap.size := ⟨_, rfl⟩
  have B0 : Below w.heap.size w W := by rw [hW]; exact (Below.refl _ _).alloc (Nat.le_refl _) _
  have kz : W.heap[z]? = some (.cells #[.int .i64 0, .int .i64 0] 38) := by rw [hW, ez]; exact (MapKept.heap_alloc _ _).1
  have h' := h.mono B0
  have HL : Hid _ := least_no W b L cap G n lb _ h'.nm hv
  obtain ⟨_, c1, _, _, _, _⟩ := h'.cells
  have HW : Hid (w.alloc (.cells #[.int .i64 0, .int .i64 0] 38) = W ∧ w.heap.size = z ∧ Below w.heap.size w W ∧ W.heap[z]? = some (.cells #[.int .i64 0, .int .i64 0] 38)) := ⟨hW.symm, ez.symm, B0, kz⟩
  clear h h' hW ez B0 kz hv
  go_enter Tryd.func25, Tryd.ntmps25
  go_upto_region 1 with fail
  rw [HW.out.1, HW.out.2.1]
  go_wp2_with fail
  refine Calls.mono HL.out ?_
  rintro e w1 ⟨rfl, hB⟩
  have e1 : w1.heap[z]? = some (.cells #[.int .i64 0, .int .i64 0] 38) := (hB.block _ (Array.getElem?_eq_some_iff.1 HW.out.2.2.2).1).trans HW.out.2.2.2
  have u0 : w1.cell? ⟨z, 0, none⟩ = some (.int .i64 0) := by simp [World.cell?, e1]
  have u1 : w1.cell? ⟨z, 1, none⟩ = some (.int .i64 0) := by simp [World.cell?, e1]
  have u2 : w1.frozen? ⟨z, 0, none⟩ = false := by simp [World.frozen?, e1]
  have u3 : w1.frozen? ⟨z, 1, none⟩ = false := by simp [World.frozen?, e1]
  have H1 : Hid (Below w.heap.size w w1 ∧ w.heap.size ≤ z) := ⟨HW.out.2.2.1.trans (hB.mono HW.out.2.2.1.size), by have := HW.out.2.1; omega⟩
  clear hB e1
  go_wp2_with fail
  exact bodyPost_ret (v := .tuple #[.agg #[.int .i64 0, .int .i64 0], .int .i64 61]) (by simp [results, Tryd.results25, go_sem, u0, u1]) rfl ⟨rfl, (H1.out.1.setCell (p := ⟨z, 0, none⟩) H1.out.2 _).setCell (p := ⟨z, 1, none⟩) H1.out.2 _⟩
theorem SpW.words {W W' : World} {sb lb n : Nat} {last : Int} {cnt : Nat} {xs : List (Option ByteArray × Int)} {r g N f b L cap : Nat} {G : Nat → Nat} {ys : List (Option Nat × Int)} {S S' : Nat → Prop} (h : SpW W sb lb n last cnt xs r g N f b L cap G ys S) (hN : NmX W' b L cap G n (Lv S') lb) (hF : Ft isW lb W W') : SpW W' sb lb n last cnt xs r g N f b L cap G ys S' := by
  refine { h with hd := (hF.blk h.hd (by unfold isW; decide)).trans h.hd, ring := h.ring.of_blocks ?_ ?_, nm := hN, things := fun i hi => ⟨(h.things i hi).1, (h.things i hi).2.kept fun k cs e => (hF.blk e (by unfold isW; decide)).trans e⟩ }
  · obtain ⟨cs, e, _⟩ := h.ring.hd
    exact hF.blk e (by unfold isW; decide)
  · rcases Nat.eq_zero_or_pos N with e0 | e0
    · rw [(h.ring.zr e0).1]
      obtain ⟨cs, e, _⟩ := h.ring.hd
      exact hF.blk e (by unfold isW; decide)
    · obtain ⟨cs, e, _⟩ := h.ring.row e0
      exact hF.blk e (by unfold isW; decide)
theorem ft_newW {P : TypeId → Prop} {lb : Nat} {a b : World} (h : Ft P lb a b) {x : Nat} (hx : a.heap.size ≤ x) (hl : lb ≤ x) (i : Nat) (v : Value) : Ft P lb a (b.setCell ⟨x, i, none⟩ v) :=
  ⟨h.os, h.tape, h.output, by simpa using h.size, fun k h1 h2 => (Below.heap_setCell _ _ _ k (show k ≠ x by omega)).trans (h.low k h1 h2), fun k o e ho => (Below.heap_setCell _ _ _ k (show k ≠ x by have := (Array.getElem?_eq_some_iff.1 e).1; omega)).trans (h.oth k o e ho)⟩
set_option maxHeartbeats 4000000 in
theorem putW_yes {w : World} {sb lb n : Nat} {last : Int} {cnt : Nat} {xs : List (Option ByteArray × Int)} (h : SlW w sb lb n last cnt xs) (hT : Tab w) (v : ByteArray) (m : Nat) (hm : Least (VacW n last xs) m) :
    Calls Tryd.prog 25 #[.pointer (some ⟨sb, 0, none⟩), Value.string v] w fun e w' => e = .returned (.tuple #[.agg #[.int .i64 (m : Int), .int .i64 ((xs.getD m (none, 0)).2 + 1)], .int .i64 0]) ∧ (∃ cnt', SlW w' sb lb n last cnt' (putXW xs m v)) ∧ Ft isSW lb w w' := by
  obtain ⟨r, g, N, f, b, L, cap, G, ys, h⟩ := h
  obtain ⟨hm1, hm2⟩ := vac_leW hm
  obtain ⟨W, hW⟩ : ∃ W, W = w.alloc (.cells #[.int .i64 0, .int .i64 0] 38) := ⟨_, rfl⟩
  obtain ⟨z, ez⟩ : ∃ z, z = w.heap.size := ⟨_, rfl⟩
  have B0 : Below w.heap.size w W := by rw [hW]; exact (Below.refl _ _).alloc (Nat.le_refl _) _
  have kz : W.heap[z]? = some (.cells #[.int .i64 0, .int .i64 0] 38) := by rw [hW, ez]; exact (MapKept.heap_alloc _ _).1
  have h' := h.mono B0
  have HL : Hid _ := least_yes W b L cap G n lb m _ h'.nm (hT.go B0) hm hm2
  obtain ⟨c0, c1, _, _, _, hsl⟩ := h'.cells
  obtain ⟨gen, egen⟩ : ∃ gen, gen = (xs.getD m (none, 0)).2 := ⟨_, rfl⟩
  have hat : (atP ys (m : Int)).2 = gen := by
    unfold atP
    rw [egen]
    by_cases e : m < xs.length
    · rw [if_pos (by rw [h.len]; omega), Int.toNat_natCast]
      exact (h.things m e).1
    · rw [if_neg (by rw [h.len]; omega)]
      simp [show xs.length ≤ m by omega]
  have hgb : 0 ≤ gen ∧ gen < last := by
    rw [egen]
    have h1 := hm.1
    unfold VacW at h1
    rcases Nat.lt_or_ge m xs.length with e | e
    · have := h.gens m e
      rcases h1.2 with h2 | h2
      · omega
      · exact ⟨by omega, h2.2⟩
    · have := h.last1
      simp [e]
      omega
  obtain ⟨x0, ex0⟩ : ∃ x0, x0 = (atP ys (m : Int)).1 := ⟨_, rfl⟩
  have AT : Hid (∀ W', Below W.heap.size W W' → Calls Tryd.prog 41 #[.pointer (some ⟨r, 0, none⟩), .int .i64 (m : Int)] W' fun e w' => ∃ bb, e = .returned (.tuple #[.agg #[pP x0, .int .i64 gen], .bool bb]) ∧ Below W'.heap.size W' w') := fun W' hB => by
    have := atW_u r g N f ys (m : Int) W' (h'.ring.mono hB)
    rw [hat, ← ex0] at this
    exact this
  obtain ⟨pp, epp⟩ : ∃ pp : Option Addr, pp = x0.map fun b => ⟨b, 0, none⟩ := ⟨_, rfl⟩
  have ep : pP x0 = .pointer pp := by rw [epp]; rfl
  rw [ep] at AT
  have hl2 := h.last2
  have HW : Hid (w.alloc (.cells #[.int .i64 0, .int .i64 0] 38) = W ∧ w.heap.size = z) := ⟨hW.symm, ez.symm⟩
  have HH : Hid (SpW W sb lb n last cnt xs r g N f b L cap G ys (VacW n last xs) ∧ Below w.heap.size w W ∧ W.heap[z]? = some (.cells #[.int .i64 0, .int .i64 0] 38) ∧ Least (VacW n last xs) m ∧ gen = (xs.getD m (none, 0)).2) := ⟨h', B0, kz, hm, egen⟩
  rw [← egen]
  clear h h' hW ez B0 kz hm hat ex0 epp ep egen hT
  go_enter Tryd.func25, Tryd.ntmps25
  go_upto_region 1 with fail
  rw [HW.out.1, HW.out.2]
  go_wp2_with fail
  refine Calls.mono HL.out ?_
  rintro e w1 ⟨rfl, hB1⟩
  have H1 : Hid (Below W.heap.size W w1) := hB1
  have d0 := cell_later hB1 c0
  have d1 := cell_later hB1 c1
  clear hB1 HL
  go_wp2_with fail
  refine Calls.mono (AT.out _ H1.out) ?_
  rintro e w2 ⟨bb, rfl, hB2⟩
  have BW2 : Below W.heap.size W w2 := H1.out.trans (hB2.mono H1.out.size)
  obtain ⟨W4, hW4⟩ : ∃ W4, W4 = (w2.alloc (.cells #[.pointer pp, .int .i64 gen] 106)).alloc (.cells #[.int .i64 (m : Int), .int .i64 (gen + 1)] 38) := ⟨_, rfl⟩
  obtain ⟨q, eq⟩ : ∃ q, q = w2.heap.size := ⟨_, rfl⟩
  have B4 : Below W.heap.size W W4 := by rw [hW4]; exact (BW2.alloc BW2.size _).alloc (by have := BW2.size; simp; omega) _
  have kq : W4.heap[q + 1]? = some (.cells #[.int .i64 (m : Int), .int .i64 (gen + 1)] 38) := by
    rw [hW4, eq]
    have := (MapKept.heap_alloc (w2.alloc (.cells #[.pointer pp, .int .i64 gen] 106)) (.cells #[.int .i64 (m : Int), .int .i64 (gen + 1)] 38)).1
    simpa using this
  have hq4 : W4.heap.size = q + 2 := by rw [hW4, eq]; simp
  have HW4 : Hid ((w2.alloc (.cells #[.pointer pp, .int .i64 gen] 106)).alloc (.cells #[.int .i64 (m : Int), .int .i64 (gen + 1)] 38) = W4 ∧ w2.heap.size = q) := ⟨hW4.symm, eq.symm⟩
  have H4 : Hid (SpW W4 sb lb n last cnt xs r g N f b L cap G ys (VacW n last xs) ∧ Below w.heap.size w W4 ∧ W4.heap[z]? = some (.cells #[.int .i64 0, .int .i64 0] 38) ∧ W4.heap[q + 1]? = some (.cells #[.int .i64 (m : Int), .int .i64 (gen + 1)] 38) ∧ z < q + 1) := by
    obtain ⟨a1, a2, a3, _⟩ := HH.out
    refine ⟨a1.mono B4, a2.trans (B4.mono a2.size), (B4.block _ (Array.getElem?_eq_some_iff.1 a3).1).trans a3, kq, ?_⟩
    have := (Array.getElem?_eq_some_iff.1 a3).1
    have := BW2.size
    omega
  have d0 := cell_later BW2 c0
  have d1 := cell_later BW2 c1
  have hsl2 : sb < w2.heap.size := Nat.lt_of_lt_of_le hsl BW2.size
  have wg : IntKind.i64.wrap (gen + 1) = gen + 1 := by rw [IntKind.wrap_i64]; omega
  clear hB2 BW2 hW4 eq B4 kq c0 c1
  go_upto_region 6 with fail
  rw [HW4.out.1, HW4.out.2]
  obtain ⟨k0, k1, _, _, _, _⟩ := H4.out.1.cells
  clear d0 d1 hsl2
  go_wp2_with fail
  refine Calls.mono (remove_any W4 b L cap G n m lb _ H4.out.1.nm hm2) ?_
  rintro e w5 ⟨rfl, hN5, hF5⟩
  have hS5 := H4.out.1.words hN5 hF5
  have z5 : w5.heap[z]? = some (.cells #[.int .i64 0, .int .i64 0] 38) := (hF5.blk H4.out.2.2.1 (by unfold isW; decide)).trans H4.out.2.2.1
  have q5 : w5.heap[q + 1]? = some (.cells #[.int .i64 (m : Int), .int .i64 (gen + 1)] 38) := (hF5.blk H4.out.2.2.2.1 (by unfold isW; decide)).trans H4.out.2.2.2.1
  have hzl5 : z < w5.heap.size := (Array.getElem?_eq_some_iff.1 z5).1
  have hql5 : q + 1 < w5.heap.size := (Array.getElem?_eq_some_iff.1 q5).1
  have v0 : w5.cell? ⟨q + 1, 0, none⟩ = some (.int .i64 (m : Int)) := by simp [World.cell?, q5]
  have v1 : w5.cell? ⟨q + 1, 1, none⟩ = some (.int .i64 (gen + 1)) := by simp [World.cell?, q5]
  obtain ⟨W6, hW6⟩ : ∃ W6, W6 = w5.alloc (.cells #[Value.string v] 113) := ⟨_, rfl⟩
  obtain ⟨cb, ecb⟩ : ∃ cb, cb = w5.heap.size := ⟨_, rfl⟩
  have B6 : Below w5.heap.size w5 W6 := by rw [hW6]; exact (Below.refl _ _).alloc (Nat.le_refl _) _
  have HW6 : Hid (w5.alloc (.cells #[Value.string v] 113) = W6 ∧ w5.heap.size = cb) := ⟨hW6.symm, ecb.symm⟩
  have lbw : lb ≤ w.heap.size ∨ True := .inr trivial
  have H6 : Hid (SpW W6 sb lb n last cnt xs r g N f b L cap G ys (fun x => VacW n last xs x ∧ x ≠ m) ∧ Ft isSW lb w W6 ∧ W6.heap[z]? = some (.cells #[.int .i64 0, .int .i64 0] 38) ∧ W6.heap[q + 1]? = some (.cells #[.int .i64 (m : Int), .int .i64 (gen + 1)] 38) ∧ W6.heap[cb]? = some (.cells #[Value.string v] 113)) := by
    refine ⟨hS5.mono B6, ((Ft.of_below H4.out.2.1).trans (hF5.weak fun t ht => .inr (.inr (.inr ht)))).trans (Ft.of_below B6), (B6.block _ hzl5).trans z5, (B6.block _ hql5).trans q5, by rw [hW6, ecb]; exact (MapKept.heap_alloc _ _).1⟩
  clear hN5 hF5 hS5 z5 q5 hW6 ecb B6 lbw
  go_upto_region 7 with fail
  go_wp2_with fail
  rw [HW6.out.1, HW6.out.2]
  have LY := layW_any sb r g N f ys _ _ _ m (gen + 1) (some cb) W6 H6.out.1.hd H6.out.1.ring (by rw [H6.out.1.len]; exact hm1) (by rw [H6.out.1.len]; exact Nat.le_trans H6.out.1.le H6.out.1.nm.nlim.2)
  refine Calls.mono LY ?_
  rintro e w7 ⟨rfl, hR⟩
  have hM := H6.out.1.lay (xs' := putXW xs m v) (w := w) H6.out.2.1 (by have := H6.out.1.lo.1; have := (Array.getElem?_eq_some_iff.1 H6.out.1.hd).1; omega) hR (by rw [putX_lenW _ _ _ hm1, H6.out.1.len]; split <;> simp [H6.out.1.len]) (fun i hi => by
    rw [putX_atW _ _ _ hm1, ← HH.out.2.2.2.2]
    have hyy : (if m < ys.length then ys.set m (some cb, gen + 1) else ys ++ [(some cb, gen + 1)]).getD i (none, 0) = if i = m then (some cb, gen + 1) else ys.getD i (none, 0) := by
      split
      · rw [getD_setW _ _ _ _ (by assumption)]
      · rw [getD_snocW]
        have e : m = ys.length := by have := H6.out.1.len; omega
        rw [e]
    rw [hyy]
    by_cases e : i = m
    · rw [if_pos e, if_pos e]
      exact ⟨rfl, H6.out.2.2.2.2⟩
    · rw [if_neg e, if_neg e]
      refine H6.out.1.things i ?_
      rw [putX_lenW _ _ _ hm1] at hi
      split at hi <;> omega) (cnt + 1)
  obtain ⟨g7, N7, f7, r1, r2, r3⟩ := hR
  have z7 : w7.heap[z]? = some (.cells #[.int .i64 0, .int .i64 0] 38) := H6.out.1.other r2 H6.out.2.2.1 fun cs t' z e => by cases e; exact ⟨by decide, by decide⟩
  have q7 : w7.heap[q + 1]? = some (.cells #[.int .i64 (m : Int), .int .i64 (gen + 1)] 38) := H6.out.1.other r2 H6.out.2.2.2.1 fun cs t' z e => by cases e; exact ⟨by decide, by decide⟩
  have s7 : w7.heap[sb]? = some (.cells #[.pointer (some ⟨r, 0, none⟩), .slice (some ⟨b, 0, none⟩) L cap, .int .i64 last, .int .i64 (cnt : Int)] 108) := (H6.out.1.after r2).1.trans H6.out.1.hd
  have n1 : z ≠ sb := fun e => by rw [e, s7] at z7; cases z7
  have n2 : q + 1 ≠ sb := fun e => by rw [e, s7] at q7; cases q7
  obtain ⟨W8, hW8⟩ : ∃ W8, W8 = w7.setCell ⟨sb, 3, none⟩ (.int .i64 ((cnt + 1 : Nat) : Int)) := ⟨_, rfl⟩
  have HW8 : Hid (w7.setCell ⟨sb, 3, none⟩ (.int .i64 ((cnt : Int) + 1)) = W8) := by rw [hW8]; congr 2
  have H8 : Hid (MidW w W8 sb lb n last (cnt + 1) r b L cap G (fun x => VacW n last xs x ∧ x ≠ m) (putXW xs m v) ∧ W8.heap[z]? = some (.cells #[.int .i64 0, .int .i64 0] 38) ∧ W8.heap[q + 1]? = some (.cells #[.int .i64 (m : Int), .int .i64 (gen + 1)] 38)) := by
    rw [hW8]
    exact ⟨hM, (Below.heap_setCell _ _ _ _ n1).trans z7, (Below.heap_setCell _ _ _ _ n2).trans q7⟩
  have k3 : w7.cell? ⟨sb, 3, none⟩ = some (.int .i64 (cnt : Int)) := by simp [World.cell?, s7]
  have f3 : w7.frozen? ⟨sb, 3, none⟩ = false := by simp [World.frozen?, s7]
  have hcn : cnt ≤ 65536 := by
    have h1 : cnt ≤ xs.length := by rw [H6.out.1.cn]; exact List.countP_le_length
    have h2 := H6.out.1.le
    have h3 := H6.out.1.nm.nlim.2
    omega
  clear LY hM r1 r2 r3 z7 q7 s7 n1 n2 hW8 v0 v1 k0 k1
  go_upto_region 9 with fail
  rw [HW8.out]
  have x0' : W8.cell? ⟨q + 1, 0, none⟩ = some (.int .i64 (m : Int)) := by simp [World.cell?, H8.out.2.2]
  have x1' : W8.cell? ⟨q + 1, 1, none⟩ = some (.int .i64 (gen + 1)) := by simp [World.cell?, H8.out.2.2]
  have y0' : W8.cell? ⟨z, 0, none⟩ = some (.int .i64 0) := by simp [World.cell?, H8.out.2.1]
  have y1' : W8.cell? ⟨z, 1, none⟩ = some (.int .i64 0) := by simp [World.cell?, H8.out.2.1]
  have y2' : W8.frozen? ⟨z, 0, none⟩ = false := by simp [World.frozen?, H8.out.2.1]
  have y3' : W8.frozen? ⟨z, 1, none⟩ = false := by simp [World.frozen?, H8.out.2.1]
  have H9 : Hid ((∃ cnt', SlW ((W8.setCell ⟨z, 0, none⟩ (.int .i64 (m : Int))).setCell ⟨z, 1, none⟩ (.int .i64 (gen + 1))) sb lb n last cnt' (putXW xs m v)) ∧ Ft isSW lb w ((W8.setCell ⟨z, 0, none⟩ (.int .i64 (m : Int))).setCell ⟨z, 1, none⟩ (.int .i64 (gen + 1)))) := by
    have hlz : lb ≤ z ∧ w.heap.size ≤ z := by
      have h1 := HW.out.2
      have h2 := H6.out.1.lo.1
      have h3 := HH.out.1.lo.1
      have h4 : sb < w.heap.size := by
        have e1 := HH.out.1.hd
        have e2 := HW.out.1
        have e3 : sb < W.heap.size := (Array.getElem?_eq_some_iff.1 e1).1
        have e4 : W.heap.size = w.heap.size + 1 := by rw [← e2]; simp
        rcases Nat.lt_or_ge sb w.heap.size with e5 | e5
        · exact e5
        · have e6 : sb = z := by omega
          rw [e6, HH.out.2.2.1] at e1
          cases e1
      omega
    refine ⟨⟨cnt + 1, ?_⟩, ft_newW (ft_newW H8.out.1.ft hlz.2 hlz.1 _ _) hlz.2 hlz.1 _ _⟩
    have hS : SlW W8 sb lb n last (cnt + 1) (putXW xs m v) := by
      refine H8.out.1.shut (fun x => (vac_putW HH.out.2.2.2.1 v x).symm) ?_ HH.out.1.last1 HH.out.1.last2 (fun i hi => ?_) ?_
      · rw [putX_lenW _ _ _ hm1]
        have := HH.out.1.le
        split <;> omega
      · rw [putX_atW _ _ _ hm1, ← HH.out.2.2.2.2]
        split
        · exact ⟨by simp; omega, by simp; omega⟩
        · refine HH.out.1.gens i ?_
          rw [putX_lenW _ _ _ hm1] at hi
          split at hi <;> omega
      · rw [count_putW hm1 (fun hl => ?_), HH.out.1.cn]
        have h1 := HH.out.2.2.2.1.1
        unfold VacW at h1
        rcases h1.2 with h2 | h2
        · omega
        · exact h2.1
    refine hS.kept fun k cs t e ht => ?_
    have hne : k ≠ z := fun e2 => by
      rw [e2, H8.out.2.1] at e
      cases e
      rcases ht with ht | ht | ht | ht | ht | ht <;> exact absurd ht (by decide)
    exact (Below.heap_setCell _ _ _ _ hne).trans ((Below.heap_setCell _ _ _ _ hne).trans e)
  clear k3 f3
  go_wp2_with fail
  exact bodyPost_ret (v := .tuple #[.agg #[.int .i64 (m : Int), .int .i64 (gen + 1)], .int .i64 0]) (by simp [results, Tryd.results25, go_sem, y0', y1']) rfl ⟨rfl, H9.out⟩
end Go.Proofs.YtbnbgikhdfbpcaaDoor
namespace Go.Proofs.YtbnbgikhdfbpcaaDoor
open Go.RowKit
set_option maxRecDepth 100000
set_option linter.unusedVariables false
/-- Between two calls: slots of texts whose blocks are new, beside handles. -/
structure Tw (w W : World) (sb n : Nat) (last : Int) (xs : List (Option ByteArray × Int)) : Prop where
  sl : ∃ cnt, SlW W sb w.heap.size n last cnt xs
  bel : Below w.heap.size w W
theorem Tw.mono {w W W' : World} {sb n : Nat} {last : Int} {xs : List (Option ByteArray × Int)} (h : Tw w W sb n last xs) (hB : Below W.heap.size W W') : Tw w W' sb n last xs := by
  obtain ⟨cnt, h1⟩ := h.sl
  exact ⟨⟨cnt, h1.mono hB⟩, h.bel.trans (hB.mono h.bel.size)⟩
theorem Tw.put {w W : World} {sb n : Nat} {last : Int} {xs : List (Option ByteArray × Int)} (h : Tw w W sb n last xs) (hT : Tab w) (v : ByteArray) (m : Nat) (hm : Least (VacW n last xs) m) :
    Calls Tryd.prog 25 #[.pointer (some ⟨sb, 0, none⟩), .string v] W fun e w' => e = .returned (.tuple #[.agg #[.int .i64 (m : Int), .int .i64 ((xs.getD m (none, 0)).2 + 1)], .int .i64 0]) ∧ Tw w w' sb n last (putXW xs m v) ∧ Ft isSW w.heap.size W w' := by
  obtain ⟨cnt, h1⟩ := h.sl
  refine (putW_yes h1 (hT.go h.bel) v m hm).mono ?_
  rintro e w' ⟨rfl, q1, q2⟩
  exact ⟨rfl, ⟨q1, h.bel.trans (q2.below h.bel.size)⟩, q2⟩
theorem Tw.full {w W : World} {sb n : Nat} {last : Int} {xs : List (Option ByteArray × Int)} (h : Tw w W sb n last xs) (v : ByteArray) (hv : ∀ i, ¬ VacW n last xs i) :
    Calls Tryd.prog 25 #[.pointer (some ⟨sb, 0, none⟩), .string v] W fun e w' => e = .returned (.tuple #[.agg #[.int .i64 0, .int .i64 0], .int .i64 61]) ∧ Tw w w' sb n last xs ∧ Ft isSW w.heap.size W w' := by
  obtain ⟨cnt, h1⟩ := h.sl
  refine (putW_no h1 v hv).mono ?_
  rintro e w' ⟨rfl, q1⟩
  exact ⟨rfl, h.mono q1, Ft.of_below q1⟩
theorem Tw.drop {w W : World} {sb n : Nat} {last : Int} {xs : List (Option ByteArray × Int)} (h : Tw w W sb n last xs) (i gen : Int) (t : ByteArray) (hf : fndW xs i gen = some t) :
    Calls Tryd.prog 27 #[.pointer (some ⟨sb, 0, none⟩), .agg #[.int .i64 i, .int .i64 gen]] W fun e w' => e = .returned (.tuple #[.string t, .int .i64 0]) ∧ Tw w w' sb n last (xs.set i.toNat (none, gen)) ∧ Ft isSW w.heap.size W w' := by
  obtain ⟨cnt, h1⟩ := h.sl
  refine (dropW_yes h1 i gen t hf).mono ?_
  rintro e w' ⟨rfl, q1, q2⟩
  exact ⟨rfl, ⟨q1, h.bel.trans (q2.below h.bel.size)⟩, q2⟩
theorem Tw.get {w W : World} {sb n : Nat} {last : Int} {xs : List (Option ByteArray × Int)} (h : Tw w W sb n last xs) (i gen : Int) :
    Calls Tryd.prog 26 #[.pointer (some ⟨sb, 0, none⟩), .agg #[.int .i64 i, .int .i64 gen]] W fun e w' => e = .returned (match fndW xs i gen with | some t => .tuple #[.string t, .int .i64 0] | none => .tuple #[.string ⟨#[]⟩, .int .i64 60]) ∧ Tw w w' sb n last xs ∧ Ft isSW w.heap.size W w' := by
  obtain ⟨cnt, h1⟩ := h.sl
  refine (getW_any h1 i gen).mono ?_
  rintro e w' ⟨rfl, q1⟩
  exact ⟨rfl, h.mono q1, Ft.of_below q1⟩
/-- A handle in a box. -/
def Hb (W : World) (b : Nat) (i gen : Int) : Prop := W.heap[b]? = some (.cells #[.int .i64 i, .int .i64 gen] 38)
theorem Hb.cells {W : World} {b : Nat} {i gen : Int} (h : Hb W b i gen) : W.cell? ⟨b, 0, none⟩ = some (.int .i64 i) ∧ W.cell? ⟨b, 1, none⟩ = some (.int .i64 gen) ∧ b < W.heap.size := by
  unfold Hb at h
  exact ⟨by simp [World.cell?, h], by simp [World.cell?, h], (Array.getElem?_eq_some_iff.1 h).1⟩
theorem Hb.ftW {W W' : World} {b lb : Nat} {i gen : Int} (h : Hb W b i gen) (hF : Ft isSW lb W W') : Hb W' b i gen := (hF.blk h (by unfold isSW; decide)).trans h
theorem Hb.mono {W W' : World} {b : Nat} {i gen : Int} (h : Hb W b i gen) (hB : Below W.heap.size W W') : Hb W' b i gen := (hB.block _ (Array.getElem?_eq_some_iff.1 h).1).trans h
theorem Hb.alloc (W : World) (i gen : Int) : Hb (W.alloc (.cells #[.int .i64 i, .int .i64 gen] 38)) W.heap.size i gen := (MapKept.heap_alloc _ _).1
def tA : ByteArray := ⟨#[97]⟩
def tB : ByteArray := ⟨#[98]⟩
def tC : ByteArray := ⟨#[99]⟩
def tD : ByteArray := ⟨#[100]⟩
theorem l0 : Least (VacW 2 2 []) 0 := ⟨⟨by omega, .inl (by simp)⟩, fun i _ => Nat.zero_le _⟩
theorem l1 : Least (VacW 2 2 [(some tA, 1)]) 1 := ⟨⟨by omega, .inl (by simp)⟩, fun i hi => by
  rcases Nat.eq_zero_or_pos i with e | e
  · subst e
    obtain ⟨_, h | h⟩ := hi
    · simp at h
    · simp at h
  · exact e⟩
theorem l2 : ∀ i, ¬ VacW 2 2 [(some tA, 1), (some tB, 1)] i := by
  rintro i ⟨h1, h2 | h2⟩
  · simp at h2
    omega
  · have : i = 0 ∨ i = 1 := by omega
    rcases this with rfl | rfl
    · simp at h2
    · simp at h2
theorem l3 : Least (VacW 2 2 [(none, 1), (some tB, 1)]) 0 := ⟨⟨by omega, .inr ⟨rfl, by simp⟩⟩, fun i _ => Nat.zero_le _⟩
set_option maxHeartbeats 4000000 in
theorem told_any (w : World) (hT : Tab w) : Calls Tryd.prog 6 #[] w fun e w' => e = .returned (.bool true) ∧ Below w.heap.size w w' := by
  have HT : Hid (Tab w) := hT
  have NW : Hid _ := newW_yes 2 2 w (by omega) (by omega) (by omega) (by omega)
  clear hT
  go_enter Tryd.func6, Tryd.ntmps6
  go_wp2_with fail
  refine Calls.mono NW.out ?_
  rintro e w1 ⟨sb, rfl, q1, q2⟩
  have H1 : Hid (Tw w w1 sb 2 2 []) := ⟨⟨_, q1⟩, q2⟩
  clear q1 q2 NW
  have P1 : Hid (Calls Tryd.prog 25 #[.pointer (some ⟨sb, 0, none⟩), .string ⟨#[97]⟩] w1 fun e w' => e = .returned (.tuple #[.agg #[.int .i64 0, .int .i64 1], .int .i64 0]) ∧ Hid (Tw w w' sb 2 2 [(some tA, 1)])) := (H1.out.put HT.out tA 0 l0).mono fun e w' ⟨h1, h2, _⟩ => ⟨h1, h2⟩
  go_wp2_with fail
  refine Calls.mono P1.out ?_
  rintro e w2 ⟨rfl, q1⟩
  have H2 : Hid (Tw w (w2.alloc (.cells #[.int .i64 0, .int .i64 1] 38)) sb 2 2 [(some tA, 1)] ∧ Hb (w2.alloc (.cells #[.int .i64 0, .int .i64 1] 38)) w2.heap.size 0 1) := ⟨q1.out.mono ((Below.refl _ _).alloc (Nat.le_refl _) _), Hb.alloc _ _ _⟩
  clear q1 H1 P1
  have P2 : Hid (Calls Tryd.prog 25 #[.pointer (some ⟨sb, 0, none⟩), .string ⟨#[98]⟩] (w2.alloc (.cells #[.int .i64 0, .int .i64 1] 38)) fun e w' => e = .returned (.tuple #[.agg #[.int .i64 1, .int .i64 1], .int .i64 0]) ∧ Hid (Tw w w' sb 2 2 [(some tA, 1), (some tB, 1)] ∧ Hb w' w2.heap.size 0 1)) := (H2.out.1.put HT.out tB 1 l1).mono fun e w' ⟨h1, h2, h3⟩ => ⟨h1, h2, H2.out.2.ftW h3⟩
  go_wp2_with fail
  refine Calls.mono P2.out ?_
  rintro e w4 ⟨rfl, q1⟩
  have B4 : Below w4.heap.size w4 (w4.alloc (.cells #[.int .i64 1, .int .i64 1] 38)) := (Below.refl _ _).alloc (Nat.le_refl _) _
  have H4 : Hid (Tw w (w4.alloc (.cells #[.int .i64 1, .int .i64 1] 38)) sb 2 2 [(some tA, 1), (some tB, 1)] ∧ Hb (w4.alloc (.cells #[.int .i64 1, .int .i64 1] 38)) w2.heap.size 0 1 ∧ Hb (w4.alloc (.cells #[.int .i64 1, .int .i64 1] 38)) w4.heap.size 1 1) := ⟨q1.out.1.mono B4, q1.out.2.mono B4, Hb.alloc _ _ _⟩
  have P3 : Hid (Calls Tryd.prog 25 #[.pointer (some ⟨sb, 0, none⟩), .string ⟨#[99]⟩] (w4.alloc (.cells #[.int .i64 1, .int .i64 1] 38)) fun e w' => e = .returned (.tuple #[.agg #[.int .i64 0, .int .i64 0], .int .i64 61]) ∧ Hid (Tw w w' sb 2 2 [(some tA, 1), (some tB, 1)] ∧ Hb w' w2.heap.size 0 1 ∧ Hb w' w4.heap.size 1 1)) := (H4.out.1.full tC l2).mono fun e w' ⟨h1, h2, h3⟩ => ⟨h1, h2, H4.out.2.1.ftW h3, H4.out.2.2.ftW h3⟩
  clear q1 B4 P2 H2
  go_wp2_with fail
  refine Calls.mono P3.out ?_
  rintro e w6 ⟨rfl, q1⟩
  have B6 : Below w6.heap.size w6 (w6.alloc (.cells #[.int .i64 0, .int .i64 0] 38)) := (Below.refl _ _).alloc (Nat.le_refl _) _
  have H6 : Hid (Tw w (w6.alloc (.cells #[.int .i64 0, .int .i64 0] 38)) sb 2 2 [(some tA, 1), (some tB, 1)] ∧ Hb (w6.alloc (.cells #[.int .i64 0, .int .i64 0] 38)) w2.heap.size 0 1 ∧ Hb (w6.alloc (.cells #[.int .i64 0, .int .i64 0] 38)) w4.heap.size 1 1) := ⟨q1.out.1.mono B6, q1.out.2.1.mono B6, q1.out.2.2.mono B6⟩
  have P4 : Hid (Calls Tryd.prog 27 #[.pointer (some ⟨sb, 0, none⟩), .agg #[.int .i64 0, .int .i64 1]] (w6.alloc (.cells #[.int .i64 0, .int .i64 0] 38)) fun e w' => e = .returned (.tuple #[.string ⟨#[97]⟩, .int .i64 0]) ∧ Hid (Tw w w' sb 2 2 [(none, 1), (some tB, 1)] ∧ Hb w' w2.heap.size 0 1 ∧ Hb w' w4.heap.size 1 1)) := (H6.out.1.drop 0 1 tA rfl).mono fun e w' ⟨h1, h2, h3⟩ => ⟨h1, h2, H6.out.2.1.ftW h3, H6.out.2.2.ftW h3⟩
  obtain ⟨a0, a1, al⟩ := q1.out.2.1.cells
  clear q1 B6 P3 H4
  go_wp2_with fail
  refine Calls.mono P4.out ?_
  rintro e w7 ⟨rfl, H7⟩
  have P5 : Hid (Calls Tryd.prog 26 #[.pointer (some ⟨sb, 0, none⟩), .agg #[.int .i64 0, .int .i64 1]] w7 fun e w' => e = .returned (.tuple #[.string ⟨#[]⟩, .int .i64 60]) ∧ Hid (Tw w w' sb 2 2 [(none, 1), (some tB, 1)] ∧ Hb w' w2.heap.size 0 1 ∧ Hb w' w4.heap.size 1 1)) := (H7.out.1.get 0 1).mono fun e w' ⟨h1, h2, h3⟩ => ⟨h1, h2, H7.out.2.1.ftW h3, H7.out.2.2.ftW h3⟩
  clear a0 a1 al P4 H6
  obtain ⟨a0, a1, al⟩ := H7.out.2.1.cells
  go_wp2_with fail
  refine Calls.mono P5.out ?_
  rintro e w8 ⟨rfl, H8⟩
  have P6 : Hid (Calls Tryd.prog 25 #[.pointer (some ⟨sb, 0, none⟩), .string ⟨#[100]⟩] w8 fun e w' => e = .returned (.tuple #[.agg #[.int .i64 0, .int .i64 2], .int .i64 0]) ∧ Hid (Tw w w' sb 2 2 [(some tD, 2), (some tB, 1)] ∧ Hb w' w2.heap.size 0 1 ∧ Hb w' w4.heap.size 1 1)) := (H8.out.1.put HT.out tD 0 l3).mono fun e w' ⟨h1, h2, h3⟩ => ⟨h1, h2, H8.out.2.1.ftW h3, H8.out.2.2.ftW h3⟩
  clear a0 a1 al P5 H7
  go_wp2_with fail
  refine Calls.mono P6.out ?_
  rintro e w9 ⟨rfl, H9⟩
  obtain ⟨a0, a1, al⟩ := H9.out.2.1.cells
  obtain ⟨b0, b1, bl⟩ := H9.out.2.2.cells
  have BL : Hid (Below w.heap.size w (w9.alloc (.cells #[.int .i64 0, .int .i64 2] 38))) := H9.out.1.bel.alloc H9.out.1.bel.size _
  clear P6 H8
  go_wp2_with fail
  go_ret
  exact ⟨rfl, BL.out⟩
end Go.Proofs.YtbnbgikhdfbpcaaDoor
namespace Go.Proofs.YtbnbgikhdfbpcaaDoor
open Go.RowKit
set_option maxRecDepth 100000
set_option linter.unusedVariables false
/-- A slice of texts that came in. -/
structure TSl (w : World) (a : Option Addr) (n cap : Nat) (xs : Nat → ByteArray) : Prop where
  le : n ≤ cap
  lim : cap ≤ 9223372036854775807
  at' : n = 0 ∨ ∃ b o, a = some ⟨b, o, none⟩ ∧ ∀ i, i < n → w.cell? ⟨b, o + i, none⟩ = some (.string (xs i))
theorem TSl.at {w W : World} {a : Option Addr} {n cap : Nat} {xs : Nat → ByteArray} (h : TSl w a n cap xs) (hB : Below w.heap.size w W) (hn : 0 < n) : ∃ b o, a = some ⟨b, o, none⟩ ∧ ∀ i, i < n → W.cell? ⟨b, o + i, none⟩ = some (.string (xs i)) := by
  rcases h.at' with e | ⟨b, o, e, hc⟩
  · omega
  · exact ⟨b, o, e, fun i hi => cell_later hB (hc i hi)⟩
/-- N slots of which the first k hold their texts. -/
def tx (S : Nat → ByteArray) (N k : Nat) : List (Option ByteArray × Int) := (List.range N).map fun j => if j < k then (some (S j), 1) else (none, 1)
theorem tx_len (S : Nat → ByteArray) (N k : Nat) : (tx S N k).length = N := by simp [tx]
theorem tx_at (S : Nat → ByteArray) (N k j : Nat) (h : j < N) : (tx S N k).getD j (none, 0) = if j < k then (some (S j), 1) else (none, 1) := by simp [tx, h]
theorem tx_put (S : Nat → ByteArray) (i : Nat) : putXW (tx S i i) i (S i) = tx S (i + 1) (i + 1) := by
  unfold putXW
  rw [if_neg (by rw [tx_len]; omega)]
  have e : ((tx S i i).getD i (none, 0)) = (none, 0) := by simp [tx]
  rw [e]
  unfold tx
  rw [List.range_succ, List.map_append]
  congr 1
  · refine List.map_congr_left fun j hj => ?_
    have : j < i := by simpa using hj
    rw [if_pos this, if_pos (by omega)]
  · simp
theorem tx_drop (S : Nat → ByteArray) (N k : Nat) (h : k < N) : (tx S N (k + 1)).set k (none, 1) = tx S N k := by
  refine List.ext_getElem (by simp [tx]) fun j h1 h2 => ?_
  rw [List.getElem_set]
  simp only [tx, List.getElem_map, List.getElem_range]
  by_cases e : k = j
  · subst e
    rw [if_pos rfl, if_neg (by omega)]
  · rw [if_neg e]
    by_cases e2 : j < k
    · rw [if_pos (by omega), if_pos e2]
    · rw [if_neg (by omega), if_neg e2]
theorem tx_least (S : Nat → ByteArray) (i : Nat) (h : i < 300) : Least (VacW 300 1 (tx S i i)) i := by
  refine ⟨⟨h, .inl (by rw [tx_len]; omega)⟩, fun j hj => ?_⟩
  rcases Nat.lt_or_ge j i with e | e
  · obtain ⟨_, h1 | h1⟩ := hj
    · rw [tx_len] at h1
      exact h1
    · rw [tx_at _ _ _ _ e, if_pos e] at h1
      simp at h1
  · exact e
theorem tx_fnd (S : Nat → ByteArray) (N k : Nat) (h : k < N) : fndW (tx S N (k + 1)) (k : Int) 1 = some (S k) := by
  unfold fndW
  have e := tx_at S N (k + 1) k h
  rw [if_pos (by omega)] at e
  rw [Int.toNat_natCast, e, tx_len, if_pos ⟨by omega, by omega, rfl⟩]
theorem tx_gone (S : Nat → ByteArray) (N k : Nat) (h : k < N) : fndW (tx S N k) (k : Int) 1 = none := by
  unfold fndW
  have e := tx_at S N k k h
  rw [if_neg (by omega)] at e
  rw [Int.toNat_natCast, e]
  split <;> rfl
theorem tx_count (S : Nat → ByteArray) (N k : Nat) (h : k ≤ N) : (tx S N k).countP (fun x => x.1.isSome) = k := by
  unfold tx
  rw [List.countP_map]
  have e : ∀ N, k ≤ N → (List.range N).countP ((fun x : Option ByteArray × Int => x.1.isSome) ∘ fun j => if j < k then (some (S j), 1) else (none, 1)) = k := by
    intro N
    induction N with
    | zero => intro h; have : k = 0 := by omega
              subst this; rfl
    | succ N ih =>
      intro h
      rw [List.range_succ, List.countP_append]
      rcases Nat.lt_or_ge N k with h1 | h1
      · have e1 : k = N + 1 := by omega
        subst e1
        have e2 : (List.range N).countP ((fun x : Option ByteArray × Int => x.1.isSome) ∘ fun j => if j < N + 1 then (some (S j), 1) else (none, 1)) = (List.range N).length := by
          refine List.countP_eq_length.2 fun j hj => ?_
          have : j < N := by simpa using hj
          simp [show j < N + 1 by omega]
        rw [e2]
        simp
      · rw [ih h1]
        simp [show ¬ N < k by omega]
  exact e N h
/-- The cells of N handles of first generations. -/
def hcs (N : Nat) : List Value := (List.range N).flatMap fun (j : Nat) => [.int .i64 (j : Int), .int .i64 1]
theorem hcs_succ (N : Nat) : hcs (N + 1) = hcs N ++ [.int .i64 (N : Int), .int .i64 1] := by simp [hcs, List.range_succ]
theorem hcs_len (N : Nat) : (hcs N).length = N * 2 := by
  induction N with
  | zero => rfl
  | succ N ih => rw [hcs_succ, List.length_append, ih]; simp; omega
theorem hcs_at (N : Nat) : ∀ j, j < N → (hcs N)[j * 2]? = some (.int .i64 (j : Int)) ∧ (hcs N)[j * 2 + 1]? = some (.int .i64 1) := by
  induction N with
  | zero => intro j h; omega
  | succ N ih =>
    intro j h
    rw [hcs_succ]
    rcases Nat.lt_or_ge j N with h1 | h1
    · rw [List.getElem?_append_left (by rw [hcs_len]; omega), List.getElem?_append_left (by rw [hcs_len]; omega)]
      exact ih j h1
    · obtain rfl : j = N := by omega
      rw [List.getElem?_append_right (by rw [hcs_len]; omega), List.getElem?_append_right (by rw [hcs_len]; omega), hcs_len]
      simp
theorem Tryd.infoH : (Tryd.prog.info? 38).map (fun i => (i.zero, i.size, i.bytes)) = some (some (.agg #[.int .i64 0, .int .i64 0]), 2, 16) := by kernel_rfl
/-- append of one handle. -/
theorem wp_appH {w : World} {ops : Array Oper} {rest : List Oper} {o : Oper} {a : Act} {Q : Exit → Act → World → Prop} (hgd : o.guard = none) (s x : Operand)
    (ho : o.op = .call { callee := .builtin .append, args := #[s, x], argTypes := #[33, 33] }) (base : Nat) (v : Value) (k : Nat) (xs : List Value) (hs : a.eval s = v) (hown : w.ownsRow base 38 2 v k xs)
    (b : Nat) (i gen : Int) (hx : a.eval x = .slice (some ⟨b, 0, none⟩) 1 1) (hc : Hb w b i gen) (hlim : k ≤ 1000) (hb : base ≤ w.heap.size)
    (h : ∀ v' w', Hid (w'.ownsRow base 38 2 v' (k + 1) (xs ++ [.int .i64 i, .int .i64 gen]) ∧ w.grownBy w' v.ownBlock ∧ (v'.ownBlock = v.ownBlock ∨ v'.ownBlock = some w.heap.size)) → wpList Tryd.prog ops Q rest (a.put o.dst v') w') : wpList Tryd.prog ops Q (o :: rest) a w := by
  obtain ⟨i', hi, hz, hsz, hby⟩ := info_parts Tryd.infoH
  obtain ⟨c0, c1, _⟩ := hc.cells
  refine wpList_append_own_at w hgd s x 33 ho base 38 i' _ 2 16 Tryd.underlying33 hi hz hsz hby rfl (by omega) v _ _ hs hown ⟨b, 0, none⟩ 1 1 [.int .i64 i, .int .i64 gen] hx rfl (fun j u' hj => ?_) (fun u' hu' => ?_) (by simp only [maxLen]; omega) (by omega) hb ?_
  · rcases j with _ | _ | j
    · simp at hj
      subst hj
      rw [addr_add]
      exact c0
    · simp at hj
      subst hj
      rw [addr_add]
      exact c1
    · simp at hj
  · simp at hu'
    rcases hu' with rfl | rfl <;> rfl
  · intro v' w' h1 h2 _ h4
    exact h v' w' ⟨h1, h2, h4⟩
/-- Slots of texts, and the handles in a row. -/
structure Tx (w W : World) (sb : Nat) (S : Nat → ByteArray) (N k : Nat) (v : Value) : Prop where
  tw : Tw w W sb 300 1 (tx S N k)
  row : W.ownsRow w.heap.size 38 2 v N (hcs N)
theorem Tx.step {w W W' : World} {sb : Nat} {S : Nat → ByteArray} {N k k' : Nat} {v : Value} (h : Tx w W sb S N k v) (ht : Tw w W' sb 300 1 (tx S N k')) (hF : Ft isSW w.heap.size W W') : Tx w W' sb S N k' v := by
  refine ⟨ht, own_kept h.row fun q hq => ?_⟩
  obtain ⟨_, cs, e⟩ := own_blk h.row hq
  exact hF.blk e (by unfold isSW; decide)
theorem Tx.cells {w W : World} {sb : Nat} {S : Nat → ByteArray} {N k : Nat} {v : Value} (h : Tx w W sb S N k v) {j : Nat} (hj : j < N) : ∃ g cap, v = .slice (some ⟨g, 0, none⟩) N cap ∧ N ≤ cap ∧ cap ≤ 9223372036854775807 ∧ W.cell? ⟨g, j * 2, none⟩ = some (.int .i64 (j : Int)) ∧ W.cell? ⟨g, j * 2 + 1, none⟩ = some (.int .i64 1) := by
  rcases h.row.2 with ⟨e, e0⟩ | ⟨g, cap, cur, e, g1, g2, g3, g4, g5, g6⟩
  · omega
  · have at' : ∀ q, q < N * 2 → cur[q]? = (hcs N)[q]? := fun q hq => by
      have q4 := congrArg (fun l => l[q]?) g6
      rw [List.getElem?_take_of_lt hq, Array.getElem?_toList] at q4
      exact q4
    obtain ⟨a0, a1⟩ := hcs_at N j hj
    refine ⟨g, cap, e, g3, by simpa [maxLen] using g4, ?_, ?_⟩
    · simp [World.cell?, g2, at' (j * 2) (by omega), a0]
    · simp [World.cell?, g2, at' (j * 2 + 1) (by omega), a1]
theorem Tw.grown {w W W' : World} {sb n : Nat} {last : Int} {xs : List (Option ByteArray × Int)} {row : Option Nat} (h : Tw w W sb n last xs) (hg : W.grownBy W' row) (hr : ∀ k, row = some k → w.heap.size ≤ k ∧ ∃ cs, W.heap[k]? = some (.cells cs 38)) : Tw w W' sb n last xs := by
  obtain ⟨cnt, h1⟩ := h.sl
  refine ⟨⟨cnt, h1.kept fun k cs t e ht => (hg.block k (Array.getElem?_eq_some_iff.1 e).1 fun e2 => ?_).trans e⟩, ⟨hg.os.trans h.bel.os, hg.tape.trans h.bel.tape, hg.output.trans h.bel.output, Nat.le_trans h.bel.size hg.size, fun x hx => (hg.block x (by have := h.bel.size; omega) fun e => ?_).trans (h.bel.block x hx)⟩⟩
  · obtain ⟨_, cs', e3⟩ := hr k e2.symm
    rw [e] at e3
    cases e3
    rcases ht with ht | ht | ht | ht | ht | ht <;> exact absurd ht (by decide)
  · have := (hr x e.symm).1
    omega
theorem Tx.len {w W : World} {sb : Nat} {S : Nat → ByteArray} {N k : Nat} {v : Value} (h : Tx w W sb S N k v) (hk : k ≤ N) : Calls Tryd.prog 28 #[.pointer (some ⟨sb, 0, none⟩)] W fun e w' => e = .returned (.int .i64 (k : Int)) ∧ W = w' := by
  obtain ⟨cnt, h1⟩ := h.tw.sl
  refine (lenW_any h1).mono ?_
  rintro e w' ⟨rfl, h2⟩
  obtain ⟨r, g, N', f, b, L, cap, G, ys, h3⟩ := h1
  have h4 := h3.cn
  rw [tx_count S N k hk] at h4
  exact ⟨by rw [h4], h2.symm⟩
set_option maxHeartbeats 8000000 in
theorem texts_any (w : World) (a : Option Addr) (L0 cap0 : Nat) (S : Nat → ByteArray) (hs : TSl w a L0 cap0 S) (hT : Tab w) :
    Calls Tryd.prog 5 #[.slice a L0 cap0] w fun e w' => e = .returned (.bool true) ∧ Below w.heap.size w w' := by
  have HS : Hid (TSl w a L0 cap0 S) := hs
  have hle := hs.le
  have hlim := hs.lim
  have HT : Hid (Tab w) := hT
  have NW : Hid _ := newW_yes 300 1 w (by omega) (by omega) (by omega) (by omega)
  clear hs hT
  go_enter Tryd.func5, Tryd.ntmps5
  go_wp2_with fail
  refine Calls.mono NW.out ?_
  rintro e w1 ⟨sb, rfl, q1, q2⟩
  have H1 : Hid (Tw w w1 sb 300 1 (tx S 0 0)) := ⟨⟨_, q1⟩, q2⟩
  have TD : Hid (Calls Tryd.prog 6 #[] w1 fun e w' => e = .returned (.bool true) ∧ Hid (Tw w w' sb 300 1 (tx S 0 0))) := (told_any w1 (HT.out.go q2)).mono fun e w' ⟨h1, h2⟩ => ⟨h1, H1.out.mono h2⟩
  clear q1 q2 NW
  go_wp2_with fail
  refine Calls.mono TD.out ?_
  rintro e w2 ⟨rfl, H2⟩
  clear TD H1
  go_upto_region 6 with fail
  obtain ⟨v0, ev0⟩ : ∃ v0, v0 = Value.slice none 0 0 := ⟨_, rfl⟩
  rw [← ev0]
  have H3 : Hid (Tx w w2 sb S 0 0 v0 ∧ ∃ va vc, v0 = .slice va 0 vc) := ⟨⟨H2.out, by rw [ev0]; exact World.ownsRow_nil _ _ _ _⟩, _, _, ev0⟩
  clear ev0 H2
  go_loopw [5, 6] (fun p q wr => ∃ (i : Nat) (va : Option Addr) (vc : Nat), i ≤ L0 ∧ i ≤ 300 ∧ q = .int .i64 (i : Int) ∧ p = .slice va i vc ∧ Hid (Tx w wr sb S i i (.slice va i vc))) (fun _ q _ => L0 - (intOf q).toNat)
  case atStart =>
    obtain ⟨h1, va, vc, e⟩ := H3.out
    subst e
    exact ⟨0, va, vc, by omega, by omega, rfl, rfl, h1⟩
  case round =>
    clear H3
    obtain ⟨i, va, vc, hi1, hi2, rfl, rfl, hI⟩ := hrel
    by_cases hin : i < L0 ∧ i < 300
    · obtain ⟨hin, hi300⟩ := hin
      have d1 : decide ((i : Int) < (L0 : Int)) = true := decide_eq_true (by omega)
      have d2 : decide ((i : Int) < 300) = true := decide_eq_true (by omega)
      obtain ⟨b, o, ea, hc⟩ := HS.out.at hI.out.tw.bel (by omega)
      have c0 := hc i hin
      subst ea
      have PU : Hid (Calls Tryd.prog 25 #[.pointer (some ⟨sb, 0, none⟩), .string (S i)] wr fun e w' => e = .returned (.tuple #[.agg #[.int .i64 (i : Int), .int .i64 1], .int .i64 0]) ∧ Hid (Tw w w' sb 300 1 (tx S (i + 1) (i + 1)) ∧ Ft isSW w.heap.size wr w')) := by
        refine (hI.out.tw.put HT.out (S i) i (tx_least S i hi300)).mono ?_
        rintro e w' ⟨rfl, h2, h3⟩
        rw [tx_put] at h2
        have e0 : ((tx S i i).getD i (none, 0)).2 + 1 = 1 := by simp [tx]
        rw [e0]
        exact ⟨rfl, h2, h3⟩
      clear hc
      go_wp2_with fail
      refine Calls.mono PU.out ?_
      rintro e w4 ⟨rfl, q1⟩
      obtain ⟨W5, hW5⟩ : ∃ W5, W5 = (w4.alloc (.cells #[.int .i64 (i : Int), .int .i64 1] 38)).alloc (.cells #[.int .i64 (i : Int), .int .i64 1] 38) := ⟨_, rfl⟩
      have B5 : Below w4.heap.size w4 W5 := by rw [hW5]; exact ((Below.refl _ _).alloc (Nat.le_refl _) _).alloc (by simp) _
      obtain ⟨hb, ehb⟩ : ∃ hb, hb = w4.heap.size + 1 := ⟨_, rfl⟩
      have hHb : Hb W5 hb (i : Int) 1 := by
        rw [hW5, ehb]
        have := Hb.alloc (w4.alloc (.cells #[.int .i64 (i : Int), .int .i64 1] 38)) (i : Int) 1
        simpa using this
      have H5 : Hid (Tw w W5 sb 300 1 (tx S (i + 1) (i + 1)) ∧ W5.ownsRow w.heap.size 38 2 (.slice va i vc) i (hcs i) ∧ Hb W5 hb (i : Int) 1 ∧ w.heap.size ≤ W5.heap.size) := by
        refine ⟨q1.out.1.mono B5, own_kept hI.out.row fun q hq => ?_, hHb, Nat.le_trans q1.out.1.bel.size B5.size⟩
        obtain ⟨_, cs, e⟩ := own_blk hI.out.row hq
        have e1 := hq
        have e2 := q1.out.2.blk e (by unfold isSW; decide)
        exact (B5.block _ (by have := e2.trans e; exact (Array.getElem?_eq_some_iff.1 this).1)).trans e2
      have HW5 : Hid ((w4.alloc (.cells #[.int .i64 (i : Int), .int .i64 1] 38)).alloc (.cells #[.int .i64 (i : Int), .int .i64 1] 38) = W5 ∧ w4.heap.size + 1 = hb) := ⟨hW5.symm, ehb.symm⟩
      clear hI q1 hHb B5 hW5 ehb PU
      go_upto_region 7 with (rw [HW5.out.1]; refine (id ?_ : wpList Tryd.prog _ _ (⟨some 54, _, _, _, _, _⟩ :: _) _ _); refine wp_appH rfl _ _ rfl w.heap.size _ _ _ rfl H5.out.2.1 hb (i : Int) 1 (by rw [← HW5.out.2]; simp [Act.eval]) H5.out.2.2.1 (by omega) H5.out.2.2.2 ?_; intro v6 w6 h6)
      obtain ⟨va6, vc6, ev6⟩ : ∃ va6 vc6, v6 = .slice va6 (i + 1) vc6 := by
        rcases h6.out.1.2 with ⟨e, e0⟩ | ⟨g', cap', cur, e, _⟩
        · omega
        · exact ⟨_, _, e⟩
      subst ev6
      have H6 : Hid (Tx w w6 sb S (i + 1) (i + 1) (.slice va6 (i + 1) vc6)) := by
        refine ⟨H5.out.1.grown h6.out.2.1 fun k hk => own_blk H5.out.2.1 hk, ?_⟩
        rw [hcs_succ]
        exact h6.out.1
      clear h6 H5
      go_wp2_with fail
      go_roundw
      case rel => exact ⟨i + 1, va6, vc6, by omega, by omega, by go_num, rfl, H6⟩
      case measure => simp [intOf]; omega
    · by_cases hin2 : i < L0
      · have d1 : decide ((i : Int) < (L0 : Int)) = true := decide_eq_true (by omega)
        have d2 : decide ((i : Int) < 300) = false := decide_eq_false (by omega)
        have p2 : ¬ i < 300 := by omega
        clear hin
        go_wp2_with fail
        obtain ⟨N, hN1, hN2⟩ : ∃ N, N = i ∧ N ≤ 300 := ⟨i, rfl, hi2⟩
        have HNL : Hid (N ≤ L0) := by show N ≤ L0; omega
        have HI : Hid (Tx w wr sb S N N (.slice va N vc)) := by rw [hN1]; exact hI
        rw [← hN1]
        clear hI hN1 hi1 hi2 hin2
        go_loopw [9] (fun q wr => ∃ (j : Nat), j ≤ N ∧ q = .int .i64 ((j : Int) - 1) ∧ Hid (Tx w wr sb S N j (.slice va N vc))) (fun q _ => (intOf q + 1).toNat)
        case atStart => exact ⟨N, Nat.le_refl _, rfl, HI⟩
        case round =>
          clear HI
          obtain ⟨j, hj, rfl, hJ⟩ := hrel
          by_cases hj0 : 0 < j
          · obtain ⟨k, ek⟩ : ∃ k, j = k + 1 := ⟨j - 1, by omega⟩
            subst ek
            have ekk : (((k + 1 : Nat) : Int) - 1) = (k : Int) := by omega
            rw [ekk]
            clear ekk
            obtain ⟨g, cap, ev, hc1, hc2, c0, c1⟩ := hJ.out.cells (j := k) (by omega)
            injection ev with ev1 _ ev2
            subst ev1
            subst ev2
            obtain ⟨b, o, ea, hc⟩ := HS.out.at hJ.out.tw.bel (by have := HNL.out; omega)
            subst ea
            have P1 : Hid (Calls Tryd.prog 26 #[.pointer (some ⟨sb, 0, none⟩), .agg #[.int .i64 (k : Int), .int .i64 1]] wr fun e w' => e = .returned (.tuple #[.string (S k), .int .i64 0]) ∧ Hid (Tx w w' sb S N (k + 1) (.slice (some ⟨g, 0, none⟩) N vc))) := by
              have h1 := hJ.out.tw.get (k : Int) 1
              rw [tx_fnd S N k (by omega)] at h1
              exact h1.mono fun e w' ⟨h1, h2, h3⟩ => ⟨h1, hJ.out.step h2 h3⟩
            have P2 : Hid (∀ w5, Tx w w5 sb S N (k + 1) (.slice (some ⟨g, 0, none⟩) N vc) → Calls Tryd.prog 27 #[.pointer (some ⟨sb, 0, none⟩), .agg #[.int .i64 (k : Int), .int .i64 1]] w5 fun e w' => e = .returned (.tuple #[.string (S k), .int .i64 0]) ∧ Hid (Tx w w' sb S N k (.slice (some ⟨g, 0, none⟩) N vc))) := fun w5 h5 => by
              refine (h5.tw.drop (k : Int) 1 (S k) (tx_fnd S N k (by omega))).mono ?_
              rintro e w' ⟨rfl, h2, h3⟩
              rw [Int.toNat_natCast, tx_drop S N k (by omega)] at h2
              exact ⟨rfl, h5.step h2 h3⟩
            have P3 : Hid (∀ w5, Tx w w5 sb S N k (.slice (some ⟨g, 0, none⟩) N vc) → Calls Tryd.prog 26 #[.pointer (some ⟨sb, 0, none⟩), .agg #[.int .i64 (k : Int), .int .i64 1]] w5 fun e w' => e = .returned (.tuple #[.string ⟨#[]⟩, .int .i64 60]) ∧ Hid (Tx w w' sb S N k (.slice (some ⟨g, 0, none⟩) N vc))) := fun w5 h5 => by
              have h1 := h5.tw.get (k : Int) 1
              rw [tx_gone S N k (by omega)] at h1
              exact h1.mono fun e w' ⟨h1, h2, h3⟩ => ⟨h1, h5.step h2 h3⟩
            have hkN : k < N := by omega
            have hkL : k < L0 := by have := HNL.out; omega
            clear hJ hc
            go_wp2_with fail
            refine Calls.mono P1.out ?_
            rintro e w5 ⟨rfl, H5⟩
            obtain ⟨g', cap', ev, _, _, c0, c1⟩ := H5.out.cells (j := k) hkN
            injection ev with ev1 _ ev2
            injection ev1 with ev1
            injection ev1 with ev1
            subst ev1
            clear ev2 P1
            go_wp2_with fail
            refine Calls.mono (P2.out _ H5.out) ?_
            rintro e w6 ⟨rfl, H6⟩
            obtain ⟨g', cap', ev, _, _, c0, c1⟩ := H6.out.cells (j := k) hkN
            injection ev with ev1 _ ev2
            injection ev1 with ev1
            injection ev1 with ev1
            subst ev1
            clear ev2 P2 H5
            go_wp2_with fail
            refine Calls.mono (P3.out _ H6.out) ?_
            rintro e w7 ⟨rfl, H7⟩
            obtain ⟨b', o', ea, hc⟩ := HS.out.at H7.out.tw.bel (by have := HNL.out; omega)
            have c9 := hc k hkL
            injection ea with ea
            injection ea with ea1 ea2
            subst ea1
            subst ea2
            have P4 : Hid _ := H7.out.len (by omega)
            clear P3 H6 hc
            go_wp2_with (first | (go_at_call 28; refine Calls.mono P4.out ?_; rintro e w8 ⟨rfl, rfl⟩))
            go_roundw
            case rel => exact ⟨k, by omega, by go_num, H7⟩
            case measure => simp [intOf]
          · obtain rfl : j = 0 := by omega
            go_wp2_with fail
            go_ret
            exact ⟨rfl, hJ.out.tw.bel⟩
      · have d1 : decide ((i : Int) < (L0 : Int)) = false := decide_eq_false (by omega)
        clear hin
        go_wp2_with fail
        obtain ⟨N, hN1, hN2⟩ : ∃ N, N = i ∧ N ≤ 300 := ⟨i, rfl, hi2⟩
        have HNL : Hid (N ≤ L0) := by show N ≤ L0; omega
        have HI : Hid (Tx w wr sb S N N (.slice va N vc)) := by rw [hN1]; exact hI
        rw [← hN1]
        clear hI hN1 hi1 hi2 hin2
        go_loopw [9] (fun q wr => ∃ (j : Nat), j ≤ N ∧ q = .int .i64 ((j : Int) - 1) ∧ Hid (Tx w wr sb S N j (.slice va N vc))) (fun q _ => (intOf q + 1).toNat)
        case atStart => exact ⟨N, Nat.le_refl _, rfl, HI⟩
        case round =>
          clear HI
          obtain ⟨j, hj, rfl, hJ⟩ := hrel
          by_cases hj0 : 0 < j
          · obtain ⟨k, ek⟩ : ∃ k, j = k + 1 := ⟨j - 1, by omega⟩
            subst ek
            have ekk : (((k + 1 : Nat) : Int) - 1) = (k : Int) := by omega
            rw [ekk]
            clear ekk
            obtain ⟨g, cap, ev, hc1, hc2, c0, c1⟩ := hJ.out.cells (j := k) (by omega)
            injection ev with ev1 _ ev2
            subst ev1
            subst ev2
            obtain ⟨b, o, ea, hc⟩ := HS.out.at hJ.out.tw.bel (by have := HNL.out; omega)
            subst ea
            have P1 : Hid (Calls Tryd.prog 26 #[.pointer (some ⟨sb, 0, none⟩), .agg #[.int .i64 (k : Int), .int .i64 1]] wr fun e w' => e = .returned (.tuple #[.string (S k), .int .i64 0]) ∧ Hid (Tx w w' sb S N (k + 1) (.slice (some ⟨g, 0, none⟩) N vc))) := by
              have h1 := hJ.out.tw.get (k : Int) 1
              rw [tx_fnd S N k (by omega)] at h1
              exact h1.mono fun e w' ⟨h1, h2, h3⟩ => ⟨h1, hJ.out.step h2 h3⟩
            have P2 : Hid (∀ w5, Tx w w5 sb S N (k + 1) (.slice (some ⟨g, 0, none⟩) N vc) → Calls Tryd.prog 27 #[.pointer (some ⟨sb, 0, none⟩), .agg #[.int .i64 (k : Int), .int .i64 1]] w5 fun e w' => e = .returned (.tuple #[.string (S k), .int .i64 0]) ∧ Hid (Tx w w' sb S N k (.slice (some ⟨g, 0, none⟩) N vc))) := fun w5 h5 => by
              refine (h5.tw.drop (k : Int) 1 (S k) (tx_fnd S N k (by omega))).mono ?_
              rintro e w' ⟨rfl, h2, h3⟩
              rw [Int.toNat_natCast, tx_drop S N k (by omega)] at h2
              exact ⟨rfl, h5.step h2 h3⟩
            have P3 : Hid (∀ w5, Tx w w5 sb S N k (.slice (some ⟨g, 0, none⟩) N vc) → Calls Tryd.prog 26 #[.pointer (some ⟨sb, 0, none⟩), .agg #[.int .i64 (k : Int), .int .i64 1]] w5 fun e w' => e = .returned (.tuple #[.string ⟨#[]⟩, .int .i64 60]) ∧ Hid (Tx w w' sb S N k (.slice (some ⟨g, 0, none⟩) N vc))) := fun w5 h5 => by
              have h1 := h5.tw.get (k : Int) 1
              rw [tx_gone S N k (by omega)] at h1
              exact h1.mono fun e w' ⟨h1, h2, h3⟩ => ⟨h1, h5.step h2 h3⟩
            have hkN : k < N := by omega
            have hkL : k < L0 := by have := HNL.out; omega
            clear hJ hc
            go_wp2_with fail
            refine Calls.mono P1.out ?_
            rintro e w5 ⟨rfl, H5⟩
            obtain ⟨g', cap', ev, _, _, c0, c1⟩ := H5.out.cells (j := k) hkN
            injection ev with ev1 _ ev2
            injection ev1 with ev1
            injection ev1 with ev1
            subst ev1
            clear ev2 P1
            go_wp2_with fail
            refine Calls.mono (P2.out _ H5.out) ?_
            rintro e w6 ⟨rfl, H6⟩
            obtain ⟨g', cap', ev, _, _, c0, c1⟩ := H6.out.cells (j := k) hkN
            injection ev with ev1 _ ev2
            injection ev1 with ev1
            injection ev1 with ev1
            subst ev1
            clear ev2 P2 H5
            go_wp2_with fail
            refine Calls.mono (P3.out _ H6.out) ?_
            rintro e w7 ⟨rfl, H7⟩
            obtain ⟨b', o', ea, hc⟩ := HS.out.at H7.out.tw.bel (by have := HNL.out; omega)
            have c9 := hc k hkL
            injection ea with ea
            injection ea with ea1 ea2
            subst ea1
            subst ea2
            have P4 : Hid _ := H7.out.len (by omega)
            clear P3 H6 hc
            go_wp2_with (first | (go_at_call 28; refine Calls.mono P4.out ?_; rintro e w8 ⟨rfl, rfl⟩))
            go_roundw
            case rel => exact ⟨k, by omega, by go_num, H7⟩
            case measure => simp [intOf]
          · obtain rfl : j = 0 := by omega
            go_wp2_with fail
            go_ret
            exact ⟨rfl, hJ.out.tw.bel⟩
end Go.Proofs.YtbnbgikhdfbpcaaDoor
namespace Go.Proofs.YtbnbgikhdfbpcaaDoor
open Go.RowKit
set_option maxRecDepth 100000
set_option linter.unusedVariables false
/-- A slice of numbers that came in. -/
structure ISl (w : World) (a : Option Addr) (n cap : Nat) (xs : Nat → Int) : Prop where
  le : n ≤ cap
  lim : cap ≤ 9223372036854775807
  wf : ∀ i, i < n → -9223372036854775808 ≤ xs i ∧ xs i ≤ 9223372036854775807
  at' : n = 0 ∨ ∃ b o, a = some ⟨b, o, none⟩ ∧ ∀ i, i < n → w.cell? ⟨b, o + i, none⟩ = some (.int .i64 (xs i))
theorem ISl.at {w W : World} {a : Option Addr} {n cap : Nat} {xs : Nat → Int} (h : ISl w a n cap xs) (hB : Below w.heap.size w W) (hn : 0 < n) : ∃ b o, a = some ⟨b, o, none⟩ ∧ ∀ i, i < n → W.cell? ⟨b, o + i, none⟩ = some (.int .i64 (xs i)) := by
  rcases h.at' with e | ⟨b, o, e, hc⟩
  · omega
  · exact ⟨b, o, e, fun i hi => cell_later hB (hc i hi)⟩
/-- Between two calls: slots of numbers whose blocks are new. -/
structure Tv (w W : World) (sb n : Nat) (last : Int) (xs : List (Option Int × Int)) : Prop where
  sl : ∃ cnt, SlV W sb w.heap.size n last cnt xs
  bel : Below w.heap.size w W
/-- The types of what is kept beside them. -/
def isQ (t : TypeId) : Prop := t = 65 ∨ t = 4 ∨ t = 38
theorem Ft.fresh {P : TypeId → Prop} {w W W' : World} (hb : Below w.heap.size w W) (hF : Ft P w.heap.size W W') : Below w.heap.size w W' := hb.trans (hF.below hb.size)
section
variable {w W W' : World} {sb n : Nat} {last : Int} {xs : List (Option Int × Int)}
theorem Tv.go (h : Tv w W sb n last xs) (hF : Ft isQ w.heap.size W W') : Tv w W' sb n last xs := by
  obtain ⟨cnt, h1⟩ := h.sl
  refine ⟨⟨cnt, h1.kept fun k cs t e ht => (hF.blk e ?_).trans e⟩, hF.fresh h.bel⟩
  rintro (e1 | e1 | e1) <;> subst e1 <;> rcases ht with e2 | e2 | e2 | e2 | e2 | e2 <;> exact absurd e2 (by decide)
theorem Tv.facts (h : Tv w W sb n last xs) : xs.length ≤ n ∧ ∀ i, i < xs.length → 1 ≤ (xs.getD i (none, 0)).2 ∧ (xs.getD i (none, 0)).2 ≤ last := by
  obtain ⟨cnt, r, g, N, f, b, L, cap, G, ys, h1⟩ := h.sl
  exact ⟨h1.le, h1.gens⟩
theorem Tv.put (h : Tv w W sb n last xs) (hT : Tab w) (v : Int) (m : Nat) (hm : Least (VacV n last xs) m) :
    Calls Tryd.prog 10 #[.pointer (some ⟨sb, 0, none⟩), .int .i64 v] W fun e w' => e = .returned (.tuple #[.agg #[.int .i64 (m : Int), .int .i64 ((xs.getD m (none, 0)).2 + 1)], .int .i64 0]) ∧ Tv w w' sb n last (putXV xs m v) ∧ Ft isSV w.heap.size W w' := by
  obtain ⟨cnt, h1⟩ := h.sl
  refine (putV_yes h1 (hT.go h.bel) v m hm).mono ?_
  rintro e w' ⟨rfl, q1, q2⟩
  exact ⟨rfl, ⟨q1, h.bel.trans (q2.below h.bel.size)⟩, q2⟩
theorem Tv.below (h : Tv w W sb n last xs) (hB : Below W.heap.size W W') : Tv w W' sb n last xs := h.go (Ft.of_below hB)
theorem Tv.full (h : Tv w W sb n last xs) (v : Int) (hv : ∀ i, ¬ VacV n last xs i) :
    Calls Tryd.prog 10 #[.pointer (some ⟨sb, 0, none⟩), .int .i64 v] W fun e w' => e = .returned (.tuple #[.agg #[.int .i64 0, .int .i64 0], .int .i64 61]) ∧ Tv w w' sb n last xs ∧ Ft isSV w.heap.size W w' := by
  obtain ⟨cnt, h1⟩ := h.sl
  refine (putV_no h1 v hv).mono ?_
  rintro e w' ⟨rfl, q1⟩
  exact ⟨rfl, h.below q1, Ft.of_below q1⟩
theorem Tv.drop (h : Tv w W sb n last xs) (i : Nat) (gen : Int) (t : Int) (hf : fndV xs (i : Int) gen = some t) :
    Calls Tryd.prog 16 #[.pointer (some ⟨sb, 0, none⟩), .agg #[.int .i64 (i : Int), .int .i64 gen]] W fun e w' => e = .returned (.tuple #[.int .i64 t, .int .i64 0]) ∧ Tv w w' sb n last (xs.set i (none, gen)) ∧ Ft isSV w.heap.size W w' := by
  obtain ⟨cnt, h1⟩ := h.sl
  refine (dropV_yes h1 (i : Int) gen t hf).mono ?_
  rintro e w' ⟨rfl, q1, q2⟩
  exact ⟨rfl, ⟨q1, h.bel.trans (q2.below h.bel.size)⟩, q2⟩
theorem Tv.keep (h : Tv w W sb n last xs) (i : Nat) (gen : Int) (hf : fndV xs (i : Int) gen = none) :
    Calls Tryd.prog 16 #[.pointer (some ⟨sb, 0, none⟩), .agg #[.int .i64 (i : Int), .int .i64 gen]] W fun e w' => e = .returned (.tuple #[.int .i64 0, .int .i64 60]) ∧ Tv w w' sb n last xs ∧ Ft isSV w.heap.size W w' := by
  obtain ⟨cnt, h1⟩ := h.sl
  refine (dropV_no h1 (i : Int) gen hf).mono ?_
  rintro e w' ⟨rfl, q1⟩
  exact ⟨rfl, h.below q1, Ft.of_below q1⟩
theorem Tv.get (h : Tv w W sb n last xs) (i : Nat) (gen : Int) :
    Calls Tryd.prog 12 #[.pointer (some ⟨sb, 0, none⟩), .agg #[.int .i64 (i : Int), .int .i64 gen]] W fun e w' => e = .returned (match fndV xs (i : Int) gen with | some t => .tuple #[.int .i64 t, .int .i64 0] | none => .tuple #[.int .i64 0, .int .i64 60]) ∧ Tv w w' sb n last xs ∧ Ft isSV w.heap.size W w' := by
  obtain ⟨cnt, h1⟩ := h.sl
  refine (getV_any h1 (i : Int) gen).mono ?_
  rintro e w' ⟨rfl, q1⟩
  exact ⟨rfl, h.below q1, Ft.of_below q1⟩
end
/-- An array of 16 numbers. -/
def A16 (W : World) (b : Nat) (F : Nat → Int) : Prop := ∃ cs, W.heap[b]? = some (.cells cs 65) ∧ cs.size = 16 ∧ ∀ j, j < 16 → cs[j]? = some (.int .i64 (F j))
theorem A16.go {P : TypeId → Prop} {W W' : World} {lb b : Nat} {F : Nat → Int} (h : A16 W b F) (hF : Ft P lb W W') (hp : ¬ P 65) : A16 W' b F := by
  obtain ⟨cs, h1, h2⟩ := h
  exact ⟨cs, (hF.blk h1 hp).trans h1, h2⟩
theorem A16.cell {W : World} {b : Nat} {F : Nat → Int} (h : A16 W b F) {j : Nat} (hj : j < 16) : W.cell? ⟨b, j, none⟩ = some (.int .i64 (F j)) ∧ W.frozen? ⟨b, j, none⟩ = false ∧ b < W.heap.size := by
  obtain ⟨cs, h1, h2, h3⟩ := h
  exact ⟨by simp [World.cell?, h1, h3 j hj], by simp [World.frozen?, h1], (Array.getElem?_eq_some_iff.1 h1).1⟩
theorem A16.congr {W : World} {b : Nat} {F F' : Nat → Int} (h : A16 W b F) (e : ∀ j, j < 16 → F j = F' j) : A16 W b F' := by
  obtain ⟨cs, h1, h2, h3⟩ := h
  exact ⟨cs, h1, h2, fun j hj => by rw [← e j hj]; exact h3 j hj⟩
theorem A16.set {W : World} {b : Nat} {F : Nat → Int} (h : A16 W b F) {j : Nat} (hj : j < 16) (v : Int) : A16 (W.setCell ⟨b, j, none⟩ (.int .i64 v)) b (fun k => if k = j then v else F k) := by
  obtain ⟨cs, h1, h2, h3⟩ := h
  refine ⟨cs.setIfInBounds j (.int .i64 v), heap_setCell_same W b j _ _ _ h1, by simp [h2], fun k hk => ?_⟩
  by_cases e : k = j
  · subst e
    simp [h2, hk]
  · rw [Array.getElem?_setIfInBounds_ne (Ne.symm e)]
    simp only [if_neg e]
    exact h3 k hk
theorem A16.other {W : World} {b c : Nat} {F : Nat → Int} (h : A16 W b F) (hc : b ≠ c) (j : Nat) (v : Value) : A16 (W.setCell ⟨c, j, none⟩ v) b F := by
  obtain ⟨cs, h1, h2⟩ := h
  exact ⟨cs, (Below.heap_setCell _ _ _ _ hc).trans h1, h2⟩
theorem A16.ft {W : World} {b lb : Nat} {F : Nat → Int} (h : A16 W b F) (hl : lb ≤ b) (j : Nat) (v : Value) : Ft (fun t => t = 65) lb W (W.setCell ⟨b, j, none⟩ v) := by
  obtain ⟨cs, h1, h2⟩ := h
  exact Ft.set (P := fun t => t = 65) (Ft.refl _ _ _) h1 rfl hl j v
theorem own_go {P : TypeId → Prop} {W W' : World} {lb b : Nat} {t : TypeId} {s n : Nat} {v : Value} {xs : List Value} (h : W.ownsRow b t s v n xs) (hF : Ft P lb W W') (hp : ¬ P t) : W'.ownsRow b t s v n xs :=
  own_kept h fun q hq => by
    obtain ⟨_, cs, e⟩ := own_blk h hq
    exact hF.blk e hp
/-- An append: only the row's own block is written. -/
theorem grown_ft {W W' : World} {lb : Nat} {t : TypeId} {s n : Nat} {v : Value} {xs : List Value} (h : W.ownsRow lb t s v n xs) (hg : W.grownBy W' v.ownBlock) : Ft (fun x => x = t) lb W W' := by
  refine ⟨hg.os, hg.tape, hg.output, hg.size, fun k h1 h2 => hg.block k h2 fun e => ?_, fun k o e ho => (hg.block k (Array.getElem?_eq_some_iff.1 e).1 fun e2 => ?_).trans e⟩
  · have := (own_blk h e.symm).1
    omega
  · obtain ⟨_, cs, e3⟩ := own_blk h e2.symm
    rw [e] at e3
    cases e3
    exact ho _ _ _ rfl rfl
/-- One cell of a row of its own is written. -/
theorem own_set {W : World} {b : Nat} {t : TypeId} {g n cap : Nat} {xs : List Value} (h : W.ownsRow b t 1 (.slice (some ⟨g, 0, none⟩) n cap) n xs) {k : Nat} (hk : k < n) (u : Value) : (W.setCell ⟨g, k, none⟩ u).ownsRow b t 1 (.slice (some ⟨g, 0, none⟩) n cap) n (xs.set k u) := by
  refine ⟨by simpa using h.1, ?_⟩
  rcases h.2 with ⟨e, e0⟩ | ⟨g', cap', cur, e, h1, h2, h3, h4, h5, h6⟩
  · cases e
  · cases e
    refine .inr ⟨g, cap, cur.setIfInBounds k u, rfl, h1, heap_setCell_same W g k _ _ _ h2, h3, h4, by simpa using h5, ?_⟩
    rw [← h6]
    simp [List.take_set]
theorem own_ft {W : World} {b : Nat} {t : TypeId} {s g n cap : Nat} {xs : List Value} (h : W.ownsRow b t s (.slice (some ⟨g, 0, none⟩) n cap) n xs) (k : Nat) (u : Value) : Ft (fun x => x = t) b W (W.setCell ⟨g, k, none⟩ u) := by
  obtain ⟨h1, cs, h2⟩ := own_blk h (k := g) rfl
  exact Ft.set (P := fun x => x = t) (Ft.refl _ _ _) h2 rfl h1 k u
/-- The cells of a row of its own. -/
theorem own_at {W : World} {b : Nat} {t : TypeId} {s n : Nat} {v : Value} {xs : List Value} (h : W.ownsRow b t s v n xs) (hn : 0 < n) : ∃ g cap, v = .slice (some ⟨g, 0, none⟩) n cap ∧ n ≤ cap ∧ cap ≤ 9223372036854775807 ∧ ∀ q, q < n * s → W.cell? ⟨g, q, none⟩ = xs[q]? ∧ W.frozen? ⟨g, q, none⟩ = false := by
  rcases h.2 with ⟨e, e0⟩ | ⟨g, cap, cur, e, g1, g2, g3, g4, g5, g6⟩
  · omega
  · refine ⟨g, cap, e, g3, by simpa [maxLen] using g4, fun q hq => ⟨?_, by simp [World.frozen?, g2]⟩⟩
    have q4 := congrArg (fun l => l[q]?) g6
    rw [List.getElem?_take_of_lt hq, Array.getElem?_toList] at q4
    simp [World.cell?, g2, q4]
/-- The cells of handles. -/
def gcs (gs : List (Nat × Int)) : List Value := gs.flatMap fun g => [.int .i64 (g.1 : Int), .int .i64 g.2]
theorem gcs_snoc (gs : List (Nat × Int)) (g : Nat × Int) : gcs (gs ++ [g]) = gcs gs ++ [.int .i64 (g.1 : Int), .int .i64 g.2] := by simp [gcs]
theorem gcs_at : ∀ (gs : List (Nat × Int)) (k : Nat) (g : Nat × Int), gs[k]? = some g → (gcs gs)[k * 2]? = some (.int .i64 (g.1 : Int)) ∧ (gcs gs)[k * 2 + 1]? = some (.int .i64 g.2)
  | [], k, g, h => by simp at h
  | x :: gs, 0, g, h => by
    simp at h
    subst h
    simp [gcs]
  | x :: gs, k + 1, g, h => by
    have e : gcs (x :: gs) = [.int .i64 (x.1 : Int), .int .i64 x.2] ++ gcs gs := by simp [gcs]
    have ih := gcs_at gs k g (by simpa using h)
    rw [e, List.getElem?_append_right (by simp; omega), List.getElem?_append_right (by simp; omega)]
    simpa [show (k + 1) * 2 - 2 = k * 2 by omega, show (k + 1) * 2 + 1 - 2 = k * 2 + 1 by omega] using ih
/-- Is that handle good? -/
def good (xs : List (Option Int × Int)) (g : Nat × Int) : Bool := (fndV xs (g.1 : Int) g.2).isSome
theorem fnd_nat (xs : List (Option Int × Int)) (i : Nat) (gen : Int) : fndV xs (i : Int) gen = if i < xs.length ∧ (xs.getD i (none, 0)).2 = gen then (xs.getD i (none, 0)).1 else none := by
  unfold fndV
  rw [Int.toNat_natCast]
  by_cases h : i < xs.length ∧ (xs.getD i (none, 0)).2 = gen
  · rw [if_pos h, if_pos ⟨by omega, by omega, h.2⟩]
  · rw [if_neg h, if_neg fun h2 => h ⟨by omega, h2.2.2⟩]
/-- Handles that were given. -/
structure Pu (xs : List (Option Int × Int)) (gs : List (Nat × Int)) : Prop where
  le : ∀ g ∈ gs, g.1 < xs.length ∧ g.2 ≤ (xs.getD g.1 (none, 0)).2
  nd : gs.Nodup
theorem Pu.put {n : Nat} {last : Int} {xs : List (Option Int × Int)} {gs : List (Nat × Int)} (h : Pu xs gs) {m : Nat} (hm : Least (VacV n last xs) m) (v : Int) : Pu (putXV xs m v) (gs ++ [(m, (xs.getD m (none, 0)).2 + 1)]) := by
  have hl := (vac_leV hm).1
  refine ⟨fun g hg => ?_, ?_⟩
  · rw [putX_lenV _ _ _ hl, putX_atV _ _ _ hl]
    rcases List.mem_append.1 hg with h1 | h1
    · obtain ⟨a, b⟩ := h.le g h1
      refine ⟨by split <;> omega, ?_⟩
      by_cases e : g.1 = m
      · rw [if_pos e]
        rw [e] at b
        simp only []
        omega
      · rw [if_neg e]
        exact b
    · obtain rfl : g = (m, (xs.getD m (none, 0)).2 + 1) := by simpa using h1
      simp only [if_true]
      exact ⟨by split <;> omega, Int.le_refl _⟩
  · rw [List.nodup_append]
    refine ⟨h.nd, by simp, fun a ha b hb e => ?_⟩
    obtain rfl : b = (m, (xs.getD m (none, 0)).2 + 1) := by simpa using hb
    subst e
    have := (h.le _ ha).2
    simp only [] at this
    omega
theorem good_put {n : Nat} {last : Int} {xs : List (Option Int × Int)} {m : Nat} (hm : Least (VacV n last xs) m) (v : Int) {g : Nat × Int} (hg : g.1 < xs.length ∧ g.2 ≤ (xs.getD g.1 (none, 0)).2) : good (putXV xs m v) g = good xs g := by
  have hl := (vac_leV hm).1
  unfold good
  rw [fnd_nat, fnd_nat, putX_lenV _ _ _ hl, putX_atV _ _ _ hl]
  have l1 : g.1 < (if m < xs.length then xs.length else xs.length + 1) := by split <;> omega
  by_cases e : g.1 = m
  · rw [if_pos e]
    have hv : (xs.getD m (none, 0)).1 = none := by
      rcases hm.1.2 with h1 | h1
      · omega
      · exact h1.1
    rw [e, hv]
    have b := hg.2
    rw [e] at b
    rw [if_neg (by intro h; have := h.2; simp only [] at this; omega)]
    split <;> rfl
  · rw [if_neg e]
    by_cases h2 : (xs.getD g.1 (none, 0)).2 = g.2
    · rw [if_pos ⟨l1, h2⟩, if_pos ⟨hg.1, h2⟩]
    · rw [if_neg fun h => h2 h.2, if_neg fun h => h2 h.2]
theorem good_new {n : Nat} {last : Int} {xs : List (Option Int × Int)} {m : Nat} (hm : Least (VacV n last xs) m) (v : Int) : good (putXV xs m v) (m, (xs.getD m (none, 0)).2 + 1) = true := by
  have hl := (vac_leV hm).1
  unfold good
  rw [fnd_nat, putX_lenV _ _ _ hl, putX_atV _ _ _ hl, if_pos rfl, if_pos ⟨by simp only []; split <;> omega, rfl⟩]
  rfl
theorem fnd_some {xs : List (Option Int × Int)} {i : Nat} {gen t : Int} (h : fndV xs (i : Int) gen = some t) : i < xs.length ∧ xs.getD i (none, 0) = (some t, gen) := by
  rw [fnd_nat] at h
  by_cases e : i < xs.length ∧ (xs.getD i (none, 0)).2 = gen
  · rw [if_pos e] at h
    exact ⟨e.1, Prod.ext h e.2⟩
  · rw [if_neg e] at h
    cases h
theorem good_drop {xs : List (Option Int × Int)} {i : Nat} {gen t : Int} (h : fndV xs (i : Int) gen = some t) (g : Nat × Int) : good (xs.set i (none, gen)) g = if g = (i, gen) then false else good xs g := by
  obtain ⟨h1, h2⟩ := fnd_some h
  unfold good
  rw [fnd_nat, fnd_nat, getD_setV _ _ _ _ h1, List.length_set]
  by_cases e : g.1 = i
  · rw [if_pos e]
    by_cases e2 : g.2 = gen
    · rw [if_pos (show g = (i, gen) from Prod.ext e e2)]
      split <;> rfl
    · rw [if_neg (show ¬ g = (i, gen) from fun h => e2 (by rw [h])), e, h2, if_neg (fun h => e2 h.2.symm), if_neg (fun h => e2 h.2.symm)]
  · rw [if_neg e, if_neg (show ¬ g = (i, gen) from fun h => e (by rw [h]))]
theorem Pu.drop {xs : List (Option Int × Int)} {gs : List (Nat × Int)} (h : Pu xs gs) {i : Nat} {gen t : Int} (hf : fndV xs (i : Int) gen = some t) : Pu (xs.set i (none, gen)) gs := by
  obtain ⟨h1, h2⟩ := fnd_some hf
  refine ⟨fun g hg => ?_, h.nd⟩
  obtain ⟨a, b⟩ := h.le g hg
  rw [getD_setV _ _ _ _ h1, List.length_set]
  refine ⟨a, ?_⟩
  by_cases e : g.1 = i
  · rw [if_pos e]
    rw [e, h2] at b
    exact b
  · rw [if_neg e]
    exact b
theorem nodup_inj {gs : List (Nat × Int)} (h : gs.Nodup) {i j : Nat} (hi : i < gs.length) (hj : j < gs.length) (e : gs[i] = gs[j]) : i = j := by
  rcases Nat.lt_trichotomy i j with h1 | h1 | h1
  · exact absurd e (List.pairwise_iff_getElem.1 h i j hi hj h1)
  · exact h1
  · exact absurd e.symm (List.pairwise_iff_getElem.1 h j i hj hi h1)
def lcs (xs : List (Option Int × Int)) (gs : List (Nat × Int)) : List Value := gs.map fun g => .bool (good xs g)
theorem lcs_put {n : Nat} {last : Int} {xs : List (Option Int × Int)} {gs : List (Nat × Int)} (h : Pu xs gs) {m : Nat} (hm : Least (VacV n last xs) m) (v : Int) : lcs (putXV xs m v) (gs ++ [(m, (xs.getD m (none, 0)).2 + 1)]) = lcs xs gs ++ [.bool true] := by
  unfold lcs
  rw [List.map_append]
  congr 1
  · exact List.map_congr_left fun g hg => by rw [good_put hm v (h.le g hg)]
  · simp [-Nat.succ_eq_add_one]
    exact good_new hm v
theorem lcs_drop {xs : List (Option Int × Int)} {gs : List (Nat × Int)} (h : Pu xs gs) {k i : Nat} {gen t : Int} (hk : gs[k]? = some (i, gen)) (hf : fndV xs (i : Int) gen = some t) : lcs (xs.set i (none, gen)) gs = (lcs xs gs).set k (.bool false) := by
  have hk' := List.getElem?_eq_some_iff.1 hk
  obtain ⟨hkl, hke⟩ := hk'
  refine List.ext_getElem (by simp [lcs]) fun j h1 h2 => ?_
  rw [List.getElem_set]
  simp only [lcs, List.getElem_map]
  rw [good_drop hf]
  have hj : j < gs.length := by simpa [lcs] using h1
  by_cases e : k = j
  · subst e
    rw [if_pos rfl, if_pos hke]
  · rw [if_neg e, if_neg fun e2 => e (nodup_inj h.nd hkl hj (hke.trans e2.symm))]
end Go.Proofs.YtbnbgikhdfbpcaaDoor
namespace Go.Proofs.YtbnbgikhdfbpcaaDoor
open Go.RowKit
set_option maxRecDepth 100000
set_option linter.unusedVariables false
theorem Tryd.infoB : (Tryd.prog.info? 4).map (fun i => (i.zero, i.size, i.bytes)) = some (some (.bool false), 1, 1) := by kernel_rfl
/-- append of one truth value. -/
theorem wp_appB {w : World} {ops : Array Oper} {rest : List Oper} {o : Oper} {a : Act} {Q : Exit → Act → World → Prop} (hgd : o.guard = none) (s x : Operand)
    (ho : o.op = .call { callee := .builtin .append, args := #[s, x], argTypes := #[64, 64] }) (base : Nat) (v : Value) (k : Nat) (xs : List Value) (hs : a.eval s = v) (hown : w.ownsRow base 4 1 v k xs)
    (b : Nat) (y : Bool) (hx : a.eval x = .slice (some ⟨b, 0, none⟩) 1 1) (hc : w.heap[b]? = some (.cells #[.bool y] 4)) (hlim : k ≤ 1000) (hb : base ≤ w.heap.size)
    (h : ∀ v' w', Hid (w'.ownsRow base 4 1 v' (k + 1) (xs ++ [.bool y]) ∧ w.grownBy w' v.ownBlock ∧ (v'.ownBlock = v.ownBlock ∨ v'.ownBlock = some w.heap.size)) → wpList Tryd.prog ops Q rest (a.put o.dst v') w') : wpList Tryd.prog ops Q (o :: rest) a w := by
  obtain ⟨i', hi, hz, hsz, hby⟩ := info_parts Tryd.infoB
  have c0 : w.cell? ⟨b, 0, none⟩ = some (.bool y) := by simp [World.cell?, hc]
  refine wpList_append_own_at w hgd s x 64 ho base 4 i' _ 1 1 Tryd.underlying64 hi hz hsz hby rfl (by omega) v _ _ hs hown ⟨b, 0, none⟩ 1 1 [.bool y] hx rfl (fun j u' hj => ?_) (fun u' hu' => ?_) (by simp only [maxLen]; omega) (by omega) hb ?_
  · rcases j with _ | j
    · simp at hj
      subst hj
      rw [addr_add]
      exact c0
    · simp at hj
  · simp at hu'
    subst hu'
    rfl
  · intro v' w' h1 h2 _ h4
    exact h v' w' ⟨h1, h2, h4⟩
/-- The slots, the two arrays, the two rows. -/
structure Am (w W : World) (sb tb bb n : Nat) (last : Int) (xs : List (Option Int × Int)) (F G : Nat → Int) (gs : List (Nat × Int)) (K : Nat) (ls : List Value) (vg vl : Value) : Prop where
  tv : Tv w W sb n last xs
  ta : A16 W tb F
  ba : A16 W bb G
  ne : tb ≠ bb
  lo : w.heap.size ≤ tb ∧ w.heap.size ≤ bb
  rg : W.ownsRow w.heap.size 38 2 vg gs.length (gcs gs)
  rl : W.ownsRow w.heap.size 4 1 vl K ls
section
variable {w W W' : World} {sb tb bb n : Nat} {last : Int} {xs xs' : List (Option Int × Int)} {F G : Nat → Int} {gs : List (Nat × Int)} {K : Nat} {ls : List Value} {vg vl vg' vl' : Value}
theorem Am.slots (h : Am w W sb tb bb n last xs F G gs K ls vg vl) (ht : Tv w W' sb n last xs') (hF : Ft isSV w.heap.size W W') : Am w W' sb tb bb n last xs' F G gs K ls vg vl :=
  ⟨ht, h.ta.go hF (by unfold isSV; decide), h.ba.go hF (by unfold isSV; decide), h.ne, h.lo, own_go h.rg hF (by unfold isSV; decide), own_go h.rl hF (by unfold isSV; decide)⟩
theorem Am.below (h : Am w W sb tb bb n last xs F G gs K ls vg vl) (hB : Below W.heap.size W W') : Am w W' sb tb bb n last xs F G gs K ls vg vl := h.slots (h.tv.below hB) (Ft.of_below hB)
theorem Am.times (h : Am w W sb tb bb n last xs F G gs K ls vg vl) {j : Nat} (hj : j < 16) (v : Int) : Am w (W.setCell ⟨tb, j, none⟩ (.int .i64 v)) sb tb bb n last xs (fun k => if k = j then v else F k) G gs K ls vg vl := by
  have hF := h.ta.ft h.lo.1 j (.int .i64 v)
  exact ⟨h.tv.go (hF.weak fun t e => .inl e), h.ta.set hj v, h.ba.other (Ne.symm h.ne) j _, h.ne, h.lo, own_go h.rg hF (by decide), own_go h.rl hF (by decide)⟩
theorem Am.busy (h : Am w W sb tb bb n last xs F G gs K ls vg vl) {j : Nat} (hj : j < 16) (v : Int) : Am w (W.setCell ⟨bb, j, none⟩ (.int .i64 v)) sb tb bb n last xs F (fun k => if k = j then v else G k) gs K ls vg vl := by
  have hF := h.ba.ft h.lo.2 j (.int .i64 v)
  exact ⟨h.tv.go (hF.weak fun t e => .inl e), h.ta.other h.ne j _, h.ba.set hj v, h.ne, h.lo, own_go h.rg hF (by decide), own_go h.rl hF (by decide)⟩
theorem Am.given (h : Am w W sb tb bb n last xs F G gs K ls vg vl) (g : Nat × Int) (ho : W'.ownsRow w.heap.size 38 2 vg' (gs.length + 1) (gcs gs ++ [.int .i64 (g.1 : Int), .int .i64 g.2])) (hg : W.grownBy W' vg.ownBlock) : Am w W' sb tb bb n last xs F G (gs ++ [g]) K ls vg' vl := by
  have hF := grown_ft h.rg hg
  refine ⟨h.tv.go (hF.weak fun t e => .inr (.inr e)), h.ta.go hF (by decide), h.ba.go hF (by decide), h.ne, h.lo, ?_, own_go h.rl hF (by decide)⟩
  rw [gcs_snoc, List.length_append]
  exact ho
theorem Am.live (h : Am w W sb tb bb n last xs F G gs K ls vg vl) {ls' : List Value} (ho : W'.ownsRow w.heap.size 4 1 vl' (K + 1) ls') (hg : W.grownBy W' vl.ownBlock) : Am w W' sb tb bb n last xs F G gs (K + 1) ls' vg vl' := by
  have hF := grown_ft h.rl hg
  exact ⟨h.tv.go (hF.weak fun t e => .inr (.inl e)), h.ta.go hF (by decide), h.ba.go hF (by decide), h.ne, h.lo, own_go h.rg hF (by decide), ho⟩
theorem Am.dead {g cap : Nat} (h : Am w W sb tb bb n last xs F G gs K ls vg (.slice (some ⟨g, 0, none⟩) K cap)) {k : Nat} (hk : k < K) (u : Value) : Am w (W.setCell ⟨g, k, none⟩ u) sb tb bb n last xs F G gs K (ls.set k u) vg (.slice (some ⟨g, 0, none⟩) K cap) := by
  have hF := own_ft h.rl k u
  exact ⟨h.tv.go (hF.weak fun t e => .inr (.inl e)), h.ta.go hF (by decide), h.ba.go hF (by decide), h.ne, h.lo, own_go h.rg hF (by decide), own_set h.rl hk u⟩
end
/-- How often, and whether, a slot is given. -/
def tms (xs : List (Option Int × Int)) (j : Nat) : Int := (xs.getD j (none, 0)).2
def bsy (xs : List (Option Int × Int)) (j : Nat) : Int := if (xs.getD j (none, 0)).1.isSome then 1 else 0
/-- .. and all is as it should be. -/
structure Ag (w W : World) (sb tb bb n : Nat) (last : Int) (xs : List (Option Int × Int)) (gs : List (Nat × Int)) (K : Nat) (vg vl : Value) : Prop where
  am : Am w W sb tb bb n last xs (tms xs) (bsy xs) gs K (lcs xs gs) vg vl
  pu : Pu xs gs
  len : gs.length = K
theorem vac_iff {w W : World} {sb n : Nat} {last : Int} {xs : List (Option Int × Int)} (h : Tv w W sb n last xs) (h1 : 1 ≤ last) {j : Nat} (hj : j < n) : VacV n last xs j ↔ bsy xs j = 0 ∧ tms xs j ≠ last := by
  obtain ⟨h2, h3⟩ := h.facts
  unfold VacV bsy tms
  by_cases e : j < xs.length
  · obtain ⟨h4, h5⟩ := h3 j e
    generalize xs.getD j (none, 0) = x at *
    obtain ⟨x1, x2⟩ := x
    simp only at *
    cases x1
    · simp
      omega
    · simp
      omega
  · have e1 : xs.getD j (none, 0) = (none, 0) := by simp [List.getD_eq_getElem?_getD, List.getElem?_eq_none (show xs.length ≤ j by omega)]
    rw [e1]
    simp
    omega
theorem bsy_or (xs : List (Option Int × Int)) (j : Nat) : bsy xs j = 0 ∨ bsy xs j = 1 := by
  unfold bsy
  split
  · exact .inr rfl
  · exact .inl rfl
/-- The handle of that number. -/
theorem Ag.at {w W : World} {sb tb bb n : Nat} {last : Int} {xs : List (Option Int × Int)} {gs : List (Nat × Int)} {K : Nat} {vg vl : Value} (h : Ag w W sb tb bb n last xs gs K vg vl) {k : Nat} (hk : k < K) :
    ∃ i gen g gc l lc, gs[k]? = some (i, gen) ∧ i < xs.length ∧ vg = .slice (some ⟨g, 0, none⟩) K gc ∧ K ≤ gc ∧ gc ≤ 9223372036854775807 ∧ vl = .slice (some ⟨l, 0, none⟩) K lc ∧ K ≤ lc ∧ lc ≤ 9223372036854775807 ∧ W.cell? ⟨g, k * 2, none⟩ = some (.int .i64 (i : Int)) ∧ W.cell? ⟨g, k * 2 + 1, none⟩ = some (.int .i64 gen) ∧ W.cell? ⟨l, k, none⟩ = some (.bool (good xs (i, gen))) ∧ W.frozen? ⟨l, k, none⟩ = false := by
  have hl := h.len
  obtain ⟨⟨i, gen⟩, hkg⟩ : ∃ x, gs[k]? = some x := ⟨_, List.getElem?_eq_getElem (by omega)⟩
  obtain ⟨g, gc, e1, e2, e3, e4⟩ := own_at h.am.rg (by omega)
  obtain ⟨l, lc, f1, f2, f3, f4⟩ := own_at h.am.rl (by omega)
  obtain ⟨c0, c1⟩ := gcs_at gs k _ hkg
  have hm := h.pu.le (i, gen) (List.mem_of_getElem? hkg)
  rw [hl] at e1 e2 e4
  refine ⟨i, gen, g, gc, l, lc, hkg, hm.1, e1, e2, e3, f1, f2, f3, (e4 _ (by omega)).1.trans c0, (e4 _ (by omega)).1.trans c1, (f4 k (by omega)).1.trans ?_, (f4 k (by omega)).2⟩
  simp [lcs, hkg]
/-- The two rows, when they hold something. -/
theorem Ag.form {w W : World} {sb tb bb n : Nat} {last : Int} {xs : List (Option Int × Int)} {gs : List (Nat × Int)} {K : Nat} {vg vl : Value} (h : Ag w W sb tb bb n last xs gs K vg vl) (hK : 0 < K) :
    ∃ g gc l lc, vg = .slice (some ⟨g, 0, none⟩) K gc ∧ K ≤ gc ∧ gc ≤ 9223372036854775807 ∧ vl = .slice (some ⟨l, 0, none⟩) K lc ∧ K ≤ lc ∧ lc ≤ 9223372036854775807 := by
  obtain ⟨i, gen, g, gc, l, lc, _, _, e1, e2, e3, f1, f2, f3, _⟩ := h.at hK
  exact ⟨g, gc, l, lc, e1, e2, e3, f1, f2, f3⟩
theorem Am.cells {w W : World} {sb tb bb n : Nat} {last : Int} {xs : List (Option Int × Int)} {F G : Nat → Int} {gs : List (Nat × Int)} {K g gc l lc : Nat} {ls : List Value} (h : Am w W sb tb bb n last xs F G gs K ls (.slice (some ⟨g, 0, none⟩) K gc) (.slice (some ⟨l, 0, none⟩) K lc)) (hl : gs.length = K) {k i : Nat} {gen : Int} (hk : gs[k]? = some (i, gen)) :
    W.cell? ⟨g, k * 2, none⟩ = some (.int .i64 (i : Int)) ∧ W.cell? ⟨g, k * 2 + 1, none⟩ = some (.int .i64 gen) ∧ W.cell? ⟨l, k, none⟩ = ls[k]? ∧ W.frozen? ⟨l, k, none⟩ = false := by
  have hkl := (List.getElem?_eq_some_iff.1 hk).1
  obtain ⟨g', gc', e1, e2, e3, e4⟩ := own_at h.rg (by omega)
  obtain ⟨l', lc', f1, f2, f3, f4⟩ := own_at h.rl (by omega)
  cases e1
  cases f1
  obtain ⟨c0, c1⟩ := gcs_at gs k _ hk
  exact ⟨(e4 _ (by omega)).1.trans c0, (e4 _ (by omega)).1.trans c1, (f4 k (by omega)).1, (f4 k (by omega)).2⟩
theorem Ag.nth {w W : World} {sb tb bb n : Nat} {last : Int} {xs : List (Option Int × Int)} {gs : List (Nat × Int)} {K : Nat} {vg vl : Value} (h : Ag w W sb tb bb n last xs gs K vg vl) {k : Nat} (hk : k < K) : ∃ i gen, gs[k]? = some (i, gen) ∧ i < xs.length ∧ (lcs xs gs)[k]? = some (.bool (good xs (i, gen))) := by
  obtain ⟨i, gen, _, _, _, _, h1, h2, _⟩ := h.at hk
  exact ⟨i, gen, h1, h2, by simp [lcs, h1]⟩
theorem Ag.slots {w W W' : World} {sb tb bb n : Nat} {last : Int} {xs : List (Option Int × Int)} {gs : List (Nat × Int)} {K : Nat} {vg vl : Value} (h : Ag w W sb tb bb n last xs gs K vg vl) (ht : Tv w W' sb n last xs) (hF : Ft isSV w.heap.size W W') : Ag w W' sb tb bb n last xs gs K vg vl := ⟨h.am.slots ht hF, h.pu, h.len⟩
theorem Ag.below {w W W' : World} {sb tb bb n : Nat} {last : Int} {xs : List (Option Int × Int)} {gs : List (Nat × Int)} {K : Nat} {vg vl : Value} (h : Ag w W sb tb bb n last xs gs K vg vl) (hB : Below W.heap.size W W') : Ag w W' sb tb bb n last xs gs K vg vl := ⟨h.am.below hB, h.pu, h.len⟩
theorem tms_put {n : Nat} {last : Int} {xs : List (Option Int × Int)} {m : Nat} (hm : Least (VacV n last xs) m) (v : Int) (j : Nat) : tms (putXV xs m v) j = if j = m then tms xs m + 1 else tms xs j := by
  unfold tms
  rw [putX_atV _ _ _ (vac_leV hm).1]
  split <;> rfl
theorem bsy_put {n : Nat} {last : Int} {xs : List (Option Int × Int)} {m : Nat} (hm : Least (VacV n last xs) m) (v : Int) (j : Nat) : bsy (putXV xs m v) j = if j = m then 1 else bsy xs j := by
  unfold bsy
  rw [putX_atV _ _ _ (vac_leV hm).1]
  by_cases e : j = m
  · rw [if_pos e, if_pos e]
    rfl
  · rw [if_neg e, if_neg e]
theorem tms_drop {xs : List (Option Int × Int)} {i : Nat} {gen t : Int} (h : fndV xs (i : Int) gen = some t) (j : Nat) : tms (xs.set i (none, gen)) j = tms xs j := by
  obtain ⟨h1, h2⟩ := fnd_some h
  unfold tms
  rw [getD_setV _ _ _ _ h1]
  by_cases e : j = i
  · subst e
    rw [if_pos rfl, h2]
  · rw [if_neg e]
theorem bsy_drop {xs : List (Option Int × Int)} {i : Nat} {gen t : Int} (h : fndV xs (i : Int) gen = some t) (j : Nat) : bsy (xs.set i (none, gen)) j = if j = i then 0 else bsy xs j := by
  obtain ⟨h1, h2⟩ := fnd_some h
  unfold bsy
  rw [getD_setV _ _ _ _ h1]
  by_cases e : j = i
  · rw [if_pos e, if_pos e]
    rfl
  · rw [if_neg e, if_neg e]
theorem Am.congr {w W : World} {sb tb bb n : Nat} {last : Int} {xs : List (Option Int × Int)} {F G F' G' : Nat → Int} {gs : List (Nat × Int)} {K : Nat} {ls ls' : List Value} {vg vl : Value} (h : Am w W sb tb bb n last xs F G gs K ls vg vl) (hF : ∀ j, F j = F' j) (hG : ∀ j, G j = G' j) (hl : ls = ls') : Am w W sb tb bb n last xs F' G' gs K ls' vg vl := by
  subst hl
  exact ⟨h.tv, h.ta.congr fun j _ => hF j, h.ba.congr fun j _ => hG j, h.ne, h.lo, h.rg, h.rl⟩
theorem a16_new (W : World) : A16 (W.alloc (.cells #[.int .i64 0, .int .i64 0, .int .i64 0, .int .i64 0, .int .i64 0, .int .i64 0, .int .i64 0, .int .i64 0, .int .i64 0, .int .i64 0, .int .i64 0, .int .i64 0, .int .i64 0, .int .i64 0, .int .i64 0, .int .i64 0] 65)) W.heap.size (tms []) := by
  refine ⟨_, (MapKept.heap_alloc _ _).1, rfl, ?_⟩
  have e : ∀ j, tms [] j = 0 := fun j => by simp [tms]
  simp only [e]
  intro j hj
  rcases (show j = 0 ∨ j = 1 ∨ j = 2 ∨ j = 3 ∨ j = 4 ∨ j = 5 ∨ j = 6 ∨ j = 7 ∨ j = 8 ∨ j = 9 ∨ j = 10 ∨ j = 11 ∨ j = 12 ∨ j = 13 ∨ j = 14 ∨ j = 15 by omega) with rfl | rfl | rfl | rfl | rfl | rfl | rfl | rfl | rfl | rfl | rfl | rfl | rfl | rfl | rfl | rfl <;> rfl
end Go.Proofs.YtbnbgikhdfbpcaaDoor
