/- Contracts of the program's functions, part 11: own work, joined in build order. -/
import Derived.Test.YtdobjanhmllloaaDoorJ10
namespace Go.Proofs.YtdobjanhmllloaaDoor
open Go.RowKit
set_option maxRecDepth 100000
set_option linter.unusedVariables false
theorem newW_any (w : World) : Calls Tryd.prog 37 #[] w fun e w' => e = .returned (.pointer (some ⟨w.heap.size, 0, none⟩)) ∧ RW w' w.heap.size w.heap.size 0 0 0 [] ∧ Below w.heap.size w w' := by
  have F : Hid (RW (w.alloc (.cells #[.slice none 0 0, .int .i64 0, .int .i64 0] 126)) w.heap.size w.heap.size 0 0 0 [] ∧ Below w.heap.size w (w.alloc (.cells #[.slice none 0 0, .int .i64 0, .int .i64 0] 126))) := by
    refine ⟨⟨?_, fun h => by omega, fun h => by omega, fun _ => ⟨rfl, rfl⟩, fun h => by omega, Nat.le_refl _, Nat.le_refl _, fun h => by omega, by omega⟩, (Below.refl _ _).alloc (Nat.le_refl _) _⟩
    refine World.rowIs_alloc w #[.slice none 0 0, .int .i64 0, .int .i64 0] 126 _ fun i hi => ?_
    rcases i with _ | _ | _ | i
    · rfl
    · rfl
    · rfl
    simp at hi
    omega
  go_enter Tryd.func37, Tryd.ntmps37
  go_wp2_with fail
  go_ret
  exact ⟨rfl, F.out⟩
theorem hasW_yes (r g N f c : Nat) (xs : List (Option Nat × Int)) (i : Int) (w : World) (h : RW w r g N f c xs) (h0 : 0 ≤ i) (h1 : i < c) : Calls Tryd.prog 49 #[.pointer (some ⟨r, 0, none⟩), .int .i64 i] w fun e w' => e = .returned (.bool true) ∧ w' = w := by
  have c2 := h.c2
  have d0 : decide (0 ≤ i) = true := decide_eq_true h0
  have d1 : decide (i < (c : Int)) = true := decide_eq_true h1
  clear h h0 h1
  go_enter Tryd.func49, Tryd.ntmps49
  go_wp2_with fail
  go_ret
  exact ⟨rfl, rfl⟩
theorem hasW_no (r g N f c : Nat) (xs : List (Option Nat × Int)) (i : Int) (w : World) (h : RW w r g N f c xs) (h0 : i < 0 ∨ (c : Int) ≤ i) : Calls Tryd.prog 49 #[.pointer (some ⟨r, 0, none⟩), .int .i64 i] w fun e w' => e = .returned (.bool false) ∧ w' = w := by
  have c2 := h.c2
  by_cases e : 0 ≤ i
  · have d0 : decide (0 ≤ i) = true := decide_eq_true e
    have d1 : decide (i < (c : Int)) = false := decide_eq_false (by omega)
    clear h h0 e
    go_enter Tryd.func49, Tryd.ntmps49
    go_wp2_with fail
    go_ret
    exact ⟨rfl, rfl⟩
  have d0 : decide (0 ≤ i) = false := decide_eq_false e
  clear h h0 e
  go_enter Tryd.func49, Tryd.ntmps49
  go_wp2_with fail
  go_ret
  exact ⟨rfl, rfl⟩
set_option maxHeartbeats 1000000 in
theorem atW_no (r g N f c : Nat) (xs : List (Option Nat × Int)) (i : Int) (w : World) (h : RW w r g N f c xs) (h0 : i < 0 ∨ (c : Int) ≤ i) : Calls Tryd.prog 38 #[.pointer (some ⟨r, 0, none⟩), .int .i64 i] w fun e w' => e = .returned (.tuple #[(.agg #[.pointer none, .int .i64 0]), .bool false]) ∧ Below w.heap.size w w' := by
  have B0 : Below w.heap.size w (w.alloc (.cells #[.pointer none, .int .i64 0] 100)) := (Below.refl _ _).alloc (Nat.le_refl _) _
  have HH : Hid (RW (w.alloc (.cells #[.pointer none, .int .i64 0] 100)) r g N f c xs ∧ (i < 0 ∨ (c : Int) ≤ i) ∧ Below w.heap.size w (w.alloc (.cells #[.pointer none, .int .i64 0] 100))) := ⟨h.mono B0, h0, B0⟩
  clear h h0 B0
  go_enter Tryd.func38, Tryd.ntmps38
  go_wp2_with fail
  refine (hasW_no r g N f c xs i _ HH.out.1 HH.out.2.1).mono ?_
  rintro e w1 ⟨rfl, e1⟩
  rw [e1]
  go_wp2_with fail
  refine bodyPost_ret (v := .tuple #[(.agg #[.pointer none, .int .i64 0]), .bool false]) (by simp [results, Tryd.results38, go_sem]) rfl ⟨rfl, HH.out.2.2⟩
set_option maxHeartbeats 1000000 in
theorem atW_yes (r g N f c : Nat) (xs : List (Option Nat × Int)) (j : Nat) (i : Int) (w : World) (h : RW w r g N f c xs) (hi : i = j) (h1 : j < c) : Calls Tryd.prog 38 #[.pointer (some ⟨r, 0, none⟩), .int .i64 i] w fun e w' => e = .returned (.tuple #[.agg #[pP (xs.getD j ((none, 0) : Option Nat × Int)).1, .int .i64 (xs.getD j ((none, 0) : Option Nat × Int)).2], .bool true]) ∧ Below w.heap.size w w' := by
  subst hi
  have hcN := h.cl
  have hN : 0 < N := by omega
  have hl := h.lim
  have B0 : Below w.heap.size w (w.alloc (.cells #[.pointer none, .int .i64 0] 100)) := (Below.refl _ _).alloc (Nat.le_refl _) _
  obtain ⟨W, hW⟩ : ∃ W, W = w.alloc (.cells #[.pointer none, .int .i64 0] 100) := ⟨_, rfl⟩
  obtain ⟨v, ev⟩ : ∃ v, v = w.heap.size := ⟨_, rfl⟩
  have hB : W.heap[v]? = some (.cells #[.pointer none, .int .i64 0] 100) := by rw [hW, ev]; exact (MapKept.heap_alloc _ _).1
  rw [← hW] at B0
  have h' := h.mono B0
  have hvr : r < v := by rw [ev]; exact h.rlt
  have hvg : g < v := by rw [ev]; exact h.glt
  have HH : Hid (RW W r g N f c xs ∧ Below w.heap.size w W ∧ v = w.heap.size) := ⟨h', B0, ev⟩
  obtain ⟨k, ek⟩ : ∃ k, k = (f + j) % N := ⟨_, rfl⟩
  have hk : k < N := by rw [ek]; exact Nat.mod_lt _ hN
  obtain ⟨x, ex⟩ : ∃ x, x = xs.getD j ((none, 0) : Option Nat × Int) := ⟨_, rfl⟩
  have ck0 := h'.at (by omega) (i := j) (by omega) (j := 0) (by omega)
  have ck1 := h'.at (by omega) (i := j) (by omega) (j := 1) (by omega)
  rw [← ek, ← ex] at ck0 ck1
  simp only [Nat.add_zero, encP] at ck0 ck1
  have c0 := h'.c0 hN
  have v0 : W.cell? ⟨v, 0, none⟩ = some (.pointer none) := by simp [World.cell?, hB]
  have v1 : W.cell? ⟨v, 1, none⟩ = some (.int .i64 0) := by simp [World.cell?, hB]
  have z0 : W.frozen? ⟨v, 0, none⟩ = false := by simp [World.frozen?, hB]
  have z1 : W.frozen? ⟨v, 1, none⟩ = false := by simp [World.frozen?, hB]
  have IX : Hid (∀ nd, Calls Tryd.prog 50 #[.pointer (some ⟨r, 0, none⟩), .int .i64 (j : Int)] (W.drewN nd) fun e w' => e = .returned (.int .i64 (k : Int)) ∧ ∃ n, w' = (W.drewN nd).drewN n) := fun nd => indexW_any r g N f c xs (j : Int) k (W.drewN nd) (h'.of_blocks rfl rfl) hN (by omega) (by omega) hk (by rw [ek]; simp)
  have HW : Hid (w.alloc (.cells #[.pointer none, .int .i64 0] 100) = W ∧ w.heap.size = v) := ⟨hW.symm, ev.symm⟩
  obtain ⟨x1, x2⟩ := x
  rw [← ex]
  have n1 : ¬ v = r := by omega
  have n2 : ¬ v = g := by omega
  have n3 : ¬ r = v := by omega
  have n4 : ¬ g = v := by omega
  clear h h' ek hB B0 ex ev hW hvr hvg
  go_enter Tryd.func38, Tryd.ntmps38
  go_wp2_with fail
  rw [HW.out.1, HW.out.2]
  refine (hasW_yes r g N f c xs (j : Int) _ HH.out.1 (by omega) (by omega)).mono ?_
  rintro e w1 ⟨rfl, e1⟩
  rw [e1]
  clear e1
  go_wp2_with fail
  obtain ⟨pp, epp⟩ : ∃ pp : Option Addr, pp = x1.map fun b => ⟨b, 0, none⟩ := ⟨_, rfl⟩
  have ck0' : W.cell? ⟨g, k * 2, none⟩ = some (.pointer pp) := by rw [epp]; exact ck0
  have HP : Hid (pP x1 = .pointer pp) := by rw [epp]; rfl
  clear ck0 epp
  go_region_held3 (fun w' => w'.cell? ⟨r, 0, none⟩ = some (.slice (some ⟨g, 0, none⟩) N N) ∧ w'.cell? ⟨g, k * 2, none⟩ = some (.pointer pp) ∧ w'.cell? ⟨g, k * 2 + 1, none⟩ = some (.int .i64 x2)) (first | (simp [go_sem, *]; done) | (trace_state; fail))
    (first
      | (go_at_call 50; refine Calls.mono (IX.out 1) ?_; rintro e w1 ⟨rfl, n, rfl⟩))
  go_wp2_with fail
  refine bodyPost_ret (v := .tuple #[.agg #[pP x1, .int .i64 x2], .bool true]) (by rw [HP.out]; simp [results, Tryd.results38, go_sem, *]) rfl ⟨rfl, ?_⟩
  repeat' first
    | exact HH.out.2.1
    | refine bel_drewN ?_ _
    | refine bel_drew ?_
    | refine Below.setCell ?_ (by show _ ≤ v; have := HH.out.2.2; omega) _
theorem setW_no (r g N f c : Nat) (xs : List (Option Nat × Int)) (i : Int) (x1 : Option Nat) (x2 : Int) (w : World) (h : RW w r g N f c xs) (h0 : i < 0 ∨ (c : Int) ≤ i) : Calls Tryd.prog 51 #[.pointer (some ⟨r, 0, none⟩), .int .i64 i, .agg #[pP x1, .int .i64 x2]] w fun e w' => e = .returned (.bool false) ∧ Below w.heap.size w w' := by
  obtain ⟨pp, epp⟩ : ∃ pp : Option Addr, pp = x1.map fun b => ⟨b, 0, none⟩ := ⟨_, rfl⟩
  rw [show pP x1 = .pointer pp by rw [epp]; rfl]
  have B0 : Below w.heap.size w (w.alloc (.cells #[.pointer pp, .int .i64 x2] 100)) := (Below.refl _ _).alloc (Nat.le_refl _) _
  have HH : Hid (RW (w.alloc (.cells #[.pointer pp, .int .i64 x2] 100)) r g N f c xs ∧ (i < 0 ∨ (c : Int) ≤ i)) := ⟨h.mono B0, h0⟩
  clear h h0 epp B0
  go_enter Tryd.func51, Tryd.ntmps51
  go_wp2_with fail
  refine (hasW_no r g N f c xs i _ HH.out.1 HH.out.2).mono ?_
  rintro e w1 ⟨rfl, e1⟩
  rw [e1]
  go_wp2_with fail
  go_ret
  exact ⟨rfl, (Below.refl _ _).alloc (Nat.le_refl _) _⟩
set_option maxHeartbeats 1000000 in
theorem setW_yes (r g N f c : Nat) (xs : List (Option Nat × Int)) (j : Nat) (i : Int) (x1 : Option Nat) (x2 : Int) (w : World) (h : RW w r g N f c xs) (hx : xs.length = c) (hi : i = j) (h1 : j < c) : Calls Tryd.prog 51 #[.pointer (some ⟨r, 0, none⟩), .int .i64 i, .agg #[pP x1, .int .i64 x2]] w fun e w' => e = .returned (.bool true) ∧ RW w' r g N f c (xs.set j (x1, x2)) ∧ Chg w w' r g := by
  subst hi
  obtain ⟨pp, epp⟩ : ∃ pp : Option Addr, pp = x1.map fun b => ⟨b, 0, none⟩ := ⟨_, rfl⟩
  have ep : pP x1 = .pointer pp := by rw [epp]; rfl
  have hcN := h.cl
  have hN : 0 < N := by omega
  have hl := h.lim
  have hne := h.ne hN
  obtain ⟨W, hW⟩ : ∃ W, W = w.alloc (.cells #[.pointer pp, .int .i64 x2] 100) := ⟨_, rfl⟩
  obtain ⟨v, ev⟩ : ∃ v, v = w.heap.size := ⟨_, rfl⟩
  have B0 : Below w.heap.size w W := by rw [hW]; exact (Below.refl _ _).alloc (Nat.le_refl _) _
  have hB : W.heap[v]? = some (.cells #[.pointer pp, .int .i64 x2] 100) := by rw [hW, ev]; exact (MapKept.heap_alloc _ _).1
  have h' := h.mono B0
  have HH : Hid (RW W r g N f c xs) := h'
  obtain ⟨k, ek⟩ : ∃ k, k = (f + j) % N := ⟨_, rfl⟩
  have hk : k < N := by rw [ek]; exact Nat.mod_lt _ hN
  have ck0 := h'.at (by omega) (i := j) (by omega) (j := 0) (by omega)
  have ck1 := h'.at (by omega) (i := j) (by omega) (j := 1) (by omega)
  have fk0 := h'.fg hN (k * 2)
  have fk1 := h'.fg hN (k * 2 + 1)
  rw [← ek] at ck0 ck1
  simp only [Nat.add_zero] at ck0
  have c0 := h'.c0 hN
  have v0 : W.cell? ⟨v, 0, none⟩ = some (.pointer pp) := by simp [World.cell?, hB]
  have v1 : W.cell? ⟨v, 1, none⟩ = some (.int .i64 x2) := by simp [World.cell?, hB]
  have IX : Hid (∀ nd, Calls Tryd.prog 50 #[.pointer (some ⟨r, 0, none⟩), .int .i64 (j : Int)] (W.drewN nd) fun e w' => e = .returned (.int .i64 (k : Int)) ∧ ∃ n, w' = (W.drewN nd).drewN n) := fun nd => indexW_any r g N f c xs (j : Int) k (W.drewN nd) (h'.of_blocks rfl rfl) hN (by omega) (by omega) hk (by rw [ek]; simp)
  have FH : Hid (∀ nd, RW (((W.drewN nd).setCell ⟨g, k * 2, none⟩ (.pointer pp)).setCell ⟨g, k * 2 + 1, none⟩ (.int .i64 x2)) r g N f c (xs.set j (x1, x2)) ∧ Chg w (((W.drewN nd).setCell ⟨g, k * 2, none⟩ (.pointer pp)).setCell ⟨g, k * 2 + 1, none⟩ (.int .i64 x2)) r g) := fun nd => by
    refine ⟨?_, ((((Chg.of_below B0 r g).drewN nd).setG _ _).setG _ _)⟩
    have := (show RW (W.drewN nd) r g N f c xs from h'.of_blocks rfl rfl).set (by omega) (i := j) (by omega) (x1, x2) (ys := xs.set j (x1, x2)) (by simpa using h.len) (fun i hi => getD_set _ _ _ _ (by omega) i)
    rw [← ek] at this
    have e2 : (List.range 2).map (encP (x1, x2)) = [.pointer pp, .int .i64 x2] := by rw [← ep]; rfl
    rw [e2] at this
    exact this
  have HW : Hid (w.alloc (.cells #[.pointer pp, .int .i64 x2] 100) = W ∧ w.heap.size = v) := ⟨hW.symm, ev.symm⟩
  obtain ⟨y0, ck0⟩ : ∃ y, W.cell? ⟨g, k * 2, none⟩ = some y := ⟨_, ck0⟩
  obtain ⟨y1, ck1⟩ : ∃ y, W.cell? ⟨g, k * 2 + 1, none⟩ = some y := ⟨_, ck1⟩
  have n1 : ¬ v = g := by have := h.glt; omega
  have n2 : ¬ g = v := by have := h.glt; omega
  rw [ep]
  clear h h' ek hx epp ep B0 hB hW ev
  go_enter Tryd.func51, Tryd.ntmps51
  go_wp2_with fail
  rw [HW.out.1, HW.out.2]
  refine (hasW_yes r g N f c xs (j : Int) _ HH.out (by omega) (by omega)).mono ?_
  rintro e w1 ⟨rfl, e1⟩
  rw [e1]
  clear e1
  go_wp2_with fail
  go_region_held3 (fun w' => w'.cell? ⟨r, 0, none⟩ = some (.slice (some ⟨g, 0, none⟩) N N) ∧ w'.cell? ⟨v, 0, none⟩ = some (.pointer pp) ∧ w'.cell? ⟨v, 1, none⟩ = some (.int .i64 x2)) (first | (simp [go_sem, *]; done) | (trace_state; fail))
    (first
      | (go_at_call 50; refine Calls.mono (IX.out 1) ?_; rintro e w1 ⟨rfl, n, rfl⟩))
  go_wp2_with fail
  go_ret
  exact ⟨rfl, FH.out _⟩
set_option maxHeartbeats 1000000 in
theorem pushBackW_any (r g N f : Nat) (xs : List (Option Nat × Int)) (x1 : Option Nat) (x2 : Int) (w : World) (h : RW w r g N f xs.length xs) (hx : xs.length ≤ 4294967296) :
    Calls Tryd.prog 52 #[.pointer (some ⟨r, 0, none⟩), .agg #[pP x1, .int .i64 x2]] w fun e w' => e = .returned (.tuple #[]) ∧ RingsW w r g (xs ++ [(x1, x2)]) w' := by
  obtain ⟨pp, epp⟩ : ∃ pp : Option Addr, pp = x1.map fun b => ⟨b, 0, none⟩ := ⟨_, rfl⟩
  have ep : pP x1 = .pointer pp := by rw [epp]; rfl
  obtain ⟨W, hW⟩ : ∃ W, W = w.alloc (.cells #[.pointer pp, .int .i64 x2] 100) := ⟨_, rfl⟩
  obtain ⟨v, ev⟩ : ∃ v, v = w.heap.size := ⟨_, rfl⟩
  have B0 : Below w.heap.size w W := by rw [hW]; exact (Below.refl _ _).alloc (Nat.le_refl _) _
  have hB : W.heap[v]? = some (.cells #[.pointer pp, .int .i64 x2] 100) := by rw [hW, ev]; exact (MapKept.heap_alloc _ _).1
  have HW : Hid (RW W r g N f xs.length xs ∧ W.heap[v]? = some (.cells #[.pointer pp, .int .i64 x2] 100) ∧ v = w.heap.size ∧ r < v ∧ g < v ∧ Below w.heap.size w W ∧ pP x1 = .pointer pp) := ⟨h.mono B0, hB, ev, by rw [ev]; exact h.rlt, by rw [ev]; exact h.glt, B0, ep⟩
  have HE : Hid (w.alloc (.cells #[.pointer pp, .int .i64 x2] 100) = W ∧ w.heap.size = v) := ⟨hW.symm, ev.symm⟩
  rw [ep]
  clear h epp ep B0 hB hW ev
  go_enter Tryd.func52, Tryd.ntmps52
  go_wp2_with fail
  rw [HE.out.1, HE.out.2]
  refine (widenW_any r g N f xs W HW.out.1 hx).mono ?_
  rintro e w1 ⟨rfl, g1, N1, f1, h1, hg1, hg2, hlt⟩
  have hN : 0 < N1 := by omega
  have hl := h1.lim
  have hne := h1.ne hN
  have c0 := h1.c0 hN
  have c2 := h1.c2
  have f2 := h1.fz 2
  have hv : w1.heap[v]? = some (.cells #[.pointer pp, .int .i64 x2] 100) := (hg1.block v (Array.getElem?_eq_some_iff.1 HW.out.2.1).1 (by have := HW.out.2.2.2.1; omega) (by have := HW.out.2.2.2.2.1; omega)).trans HW.out.2.1
  have hvlt : v < W.heap.size := (Array.getElem?_eq_some_iff.1 HW.out.2.1).1
  have v0 : w1.cell? ⟨v, 0, none⟩ = some (.pointer pp) := by simp [World.cell?, hv]
  have v1 : w1.cell? ⟨v, 1, none⟩ = some (.int .i64 x2) := by simp [World.cell?, hv]
  obtain ⟨k, ek⟩ : ∃ k, k = (f1 + xs.length) % N1 := ⟨_, rfl⟩
  have hk : k < N1 := by rw [ek]; exact Nat.mod_lt _ hN
  have ck0 := h1.at (by omega) (i := xs.length) hlt (j := 0) (by omega)
  have ck1 := h1.at (by omega) (i := xs.length) hlt (j := 1) (by omega)
  have fk0 := h1.fg hN (k * 2)
  have fk1 := h1.fg hN (k * 2 + 1)
  rw [← ek] at ck0 ck1
  simp only [Nat.add_zero] at ck0
  obtain ⟨y0, ck0⟩ : ∃ y, w1.cell? ⟨g1, k * 2, none⟩ = some y := ⟨_, ck0⟩
  obtain ⟨y1, ck1⟩ : ∃ y, w1.cell? ⟨g1, k * 2 + 1, none⟩ = some y := ⟨_, ck1⟩
  obtain ⟨n, en⟩ : ∃ n, n = xs.length := ⟨_, rfl⟩
  have IX : Hid (∀ nd, Calls Tryd.prog 50 #[.pointer (some ⟨r, 0, none⟩), .int .i64 (n : Int)] (w1.drewN nd) fun e w' => e = .returned (.int .i64 (k : Int)) ∧ ∃ n, w' = (w1.drewN nd).drewN n) := fun nd => indexW_any r g1 N1 f1 _ xs (n : Int) k (w1.drewN nd) (h1.of_blocks rfl rfl) hN (by omega) (by omega) hk (by rw [ek, en]; simp)
  have hgw : g1 = g ∨ g1 = r ∨ w.heap.size ≤ g1 := by
    have := HW.out.2.2.1
    rcases hg2 with e | e | e
    · exact .inl e
    · exact .inr (.inl e)
    exact .inr (.inr (by omega))
  have FH : Hid (∀ nd, RingsW w r g (xs ++ [(x1, x2)]) ((((w1.drewN nd).setCell ⟨g1, k * 2, none⟩ (.pointer pp)).setCell ⟨g1, k * 2 + 1, none⟩ (.int .i64 x2)).setCell ⟨r, 2, none⟩ (.int .i64 ((n : Int) + 1)))) := fun nd => by
    have h2 := (show RW (w1.drewN nd) r g1 N1 f1 xs.length xs from h1.of_blocks rfl rfl).snoc (by omega) hlt (x1, x2)
    have e2 : (List.range 2).map (encP (x1, x2)) = [.pointer pp, .int .i64 x2] := by rw [← HW.out.2.2.2.2.2.2]; rfl
    rw [← ek, ← en, e2] at h2
    exact RingsW.intro h2 ((Chg.of_below HW.out.2.2.2.2.2.1 r g).trans (hg1.trans (((((Chg.refl w1 r g1).drewN nd).setG _ _).setG _ _).setR 2 _) hg2) (.inl rfl)) hgw
  have n1 : ¬ v = g1 := by
    have := HW.out.2.2.2
    rcases hg2 with e | e | e <;> omega
  have n2 : ¬ g1 = v := fun e => n1 e.symm
  rw [← en] at c2 hx
  clear h1 hg1 hg2 ek hlt en hv hgw
  go_wp2_with fail
  go_region_held3 (fun w' => w'.cell? ⟨r, 0, none⟩ = some (.slice (some ⟨g1, 0, none⟩) N1 N1) ∧ w'.cell? ⟨r, 2, none⟩ = some (.int .i64 (n : Int)) ∧ w'.cell? ⟨v, 0, none⟩ = some (.pointer pp) ∧ w'.cell? ⟨v, 1, none⟩ = some (.int .i64 x2)) (first | (simp [go_sem, *]; done) | (trace_state; fail))
    (first
      | (go_at_call 50; refine Calls.mono (IX.out 1) ?_; rintro e w1 ⟨rfl, n, rfl⟩))
  go_wp2_with fail
  exact bodyPost_end (v := .tuple #[]) (by simp [results, Tryd.results52, go_sem]) rfl ⟨rfl, FH.out _⟩
theorem atW_u (r g N f : Nat) (ys : List (Option Nat × Int)) (i : Int) (w : World) (h : RW w r g N f ys.length ys) : Calls Tryd.prog 38 #[.pointer (some ⟨r, 0, none⟩), .int .i64 i] w fun e w' => ∃ bb, e = .returned (.tuple #[.agg #[pP (atP ys i).1, .int .i64 (atP ys i).2], .bool bb]) ∧ Below w.heap.size w w' := by
  unfold atP
  by_cases c : 0 ≤ i ∧ i < (ys.length : Int)
  · rw [if_pos c]
    exact (atW_yes r g N f _ ys i.toNat i w h (by omega) (by omega)).mono fun e w' ⟨h1, h2⟩ => ⟨true, h1, h2⟩
  rw [if_neg c]
  exact (atW_no r g N f _ ys i w h (by omega)).mono fun e w' ⟨h1, h2⟩ => ⟨false, h1, h2⟩
set_option maxHeartbeats 2000000 in
theorem findW_any (sb r g N f : Nat) (ys : List (Option Nat × Int)) (v1 v2 v3 : Value) (i gen : Int) (w : World) (hs : w.heap[sb]? = some (.cells #[.pointer (some ⟨r, 0, none⟩), v1, v2, v3] 102)) (h : RW w r g N f ys.length ys) :
    Calls Tryd.prog 40 #[.pointer (some ⟨sb, 0, none⟩), .agg #[.int .i64 i, .int .i64 gen]] w fun e w' => e = .returned (if hasP ys i gen then .tuple #[.agg #[pP (atP ys i).1, .int .i64 (atP ys i).2], .int .i64 0] else .tuple #[.agg #[.pointer none, .int .i64 0], .int .i64 60]) ∧ Below w.heap.size w w' := by
  obtain ⟨W, hW⟩ : ∃ W, W = (w.alloc (.cells #[.int .i64 i, .int .i64 gen] 38)).alloc (.cells #[.pointer none, .int .i64 0] 100) := ⟨_, rfl⟩
  obtain ⟨z, ez⟩ : ∃ z, z = w.heap.size := ⟨_, rfl⟩
  have B0 : Below w.heap.size w W := by rw [hW]; exact ((Below.refl _ _).alloc (Nat.le_refl _) _).alloc (by simp) _
  have sz : W.heap.size = z + 2 := by rw [hW, ez]; simp
  have kz : W.heap[z]? = some (.cells #[.int .i64 i, .int .i64 gen] 38) := by
    rw [hW, ez]
    exact (Below.heap_alloc _ _ _ (by simp)).trans (MapKept.heap_alloc _ _).1
  have kz1 : W.heap[z + 1]? = some (.cells #[.pointer none, .int .i64 0] 100) := by
    rw [hW, ez]
    have := (MapKept.heap_alloc (w.alloc (.cells #[.int .i64 i, .int .i64 gen] 38)) (.cells #[.pointer none, .int .i64 0] 100)).1
    simpa using this
  have hsW : W.heap[sb]? = some (.cells #[.pointer (some ⟨r, 0, none⟩), v1, v2, v3] 102) := (B0.block _ (Array.getElem?_eq_some_iff.1 hs).1).trans hs
  have c0 : W.cell? ⟨sb, 0, none⟩ = some (.pointer (some ⟨r, 0, none⟩)) := by simp [World.cell?, hsW]
  have d0 : W.cell? ⟨z, 0, none⟩ = some (.int .i64 i) := by simp [World.cell?, kz]
  have d1 : W.cell? ⟨z, 1, none⟩ = some (.int .i64 gen) := by simp [World.cell?, kz]
  have t0 : W.cell? ⟨z + 1, 0, none⟩ = some (.pointer none) := by simp [World.cell?, kz1]
  have t1 : W.cell? ⟨z + 1, 1, none⟩ = some (.int .i64 0) := by simp [World.cell?, kz1]
  have y0 : W.frozen? ⟨z + 1, 0, none⟩ = false := by simp [World.frozen?, kz1]
  have y1 : W.frozen? ⟨z + 1, 1, none⟩ = false := by simp [World.frozen?, kz1]
  have AT : Hid (∀ W', Below W.heap.size W W' → Calls Tryd.prog 38 #[.pointer (some ⟨r, 0, none⟩), .int .i64 i] W' fun e w' => ∃ bb, e = .returned (.tuple #[.agg #[pP (atP ys i).1, .int .i64 (atP ys i).2], .bool bb]) ∧ Below W'.heap.size W' w') := fun W' hB => atW_u r g N f ys i W' ((h.mono B0).mono hB)
  have HB : Hid (Below w.heap.size w W ∧ W.heap.size = z + 2 ∧ z = w.heap.size) := ⟨B0, sz, ez⟩
  have HW : Hid ((w.alloc (.cells #[.int .i64 i, .int .i64 gen] 38)).alloc (.cells #[.pointer none, .int .i64 0] 100) = W ∧ w.heap.size = z) := ⟨hW.symm, ez.symm⟩
  have eh : hasP ys i gen = ((atP ys i).1.isSome && decide ((atP ys i).2 = gen)) := rfl
  rw [eh]
  clear eh
  generalize atP ys i = x at AT ⊢
  obtain ⟨x1, x2⟩ := x
  obtain ⟨pp, epp⟩ : ∃ pp : Option Addr, pp = x1.map fun b => ⟨b, 0, none⟩ := ⟨_, rfl⟩
  have ep : pP x1 = .pointer pp := by rw [epp]; rfl
  have epn : x1.isSome = pp.isSome := by rw [epp]; cases x1 <;> rfl
  simp only at AT ⊢
  rw [ep] at AT ⊢
  rw [epn]
  have hzl : z + 1 < W.heap.size := by omega
  have hzl0 : z < W.heap.size := by omega
  have hsl : sb < W.heap.size := (Array.getElem?_eq_some_iff.1 hsW).1
  have KZ : Hid (W.heap[z + 1]? = some (.cells #[.pointer none, .int .i64 0] 100)) := kz1
  clear h hs hsW kz kz1 sz ez hW B0 ep epn epp
  go_enter Tryd.func40, Tryd.ntmps40
  go_upto_region 1 with fail
  rw [HW.out.1, HW.out.2]
  go_cut [6] from 7 to 17 (fun u wx => ∃ q, u = .pointer (some ⟨q, 0, none⟩) ∧ Hid (wx.cell? ⟨q, 0, none⟩ = some (.pointer pp) ∧ wx.cell? ⟨q, 1, none⟩ = some (.int .i64 x2) ∧ wx.cell? ⟨z, 0, none⟩ = some (.int .i64 i) ∧ wx.cell? ⟨z, 1, none⟩ = some (.int .i64 gen) ∧ wx.heap[z + 1]? = some (.cells #[.pointer none, .int .i64 0] 100) ∧ Below W.heap.size W wx))
  case first =>
    go_region_held3 (fun w9 => w9.cell? ⟨sb, 0, none⟩ = some (.pointer (some ⟨r, 0, none⟩)) ∧ w9.cell? ⟨z, 0, none⟩ = some (.int .i64 i) ∧ w9.cell? ⟨z, 1, none⟩ = some (.int .i64 gen) ∧ w9.cell? ⟨z + 1, 0, none⟩ = some (.pointer none) ∧ w9.cell? ⟨z + 1, 1, none⟩ = some (.int .i64 0)) (first | (simp [go_sem, *]; done) | (trace_state; fail))
      (first
        | (go_at_call 38; refine Calls.mono (AT.out W.drew (bel_drew (Below.refl _ _))) ?_; rintro e w5 ⟨bb, rfl, hB5⟩; have H5 : Hid (Below W.heap.size W w5) := (bel_drew (Below.refl _ _)).trans hB5; have m0 := cell_later H5.out c0; have m1 := cell_later H5.out d0; have m2 := cell_later H5.out d1; have m3 := cell_later H5.out t0; have m4 := cell_later H5.out t1; have l0 : sb < w5.heap.size := Nat.lt_of_lt_of_le hsl H5.out.size; have l1 : z < w5.heap.size := Nat.lt_of_lt_of_le hzl0 H5.out.size; have l2 : z + 1 < w5.heap.size := Nat.lt_of_lt_of_le hzl H5.out.size)
        | (go_at_call 38; refine Calls.mono (AT.out _ ((bel_drew (Below.refl _ _)).alloc (Nat.le_refl _) _)) ?_; rintro e w5 ⟨bb, rfl, hB5⟩; have H5 : Hid (Below W.heap.size W w5) := ((bel_drew (Below.refl _ _)).alloc (Nat.le_refl _) _).trans (hB5.mono (by simp)); have m0 := cell_later H5.out c0; have m1 := cell_later H5.out d0; have m2 := cell_later H5.out d1; have m3 := cell_later H5.out t0; have m4 := cell_later H5.out t1; have l0 : sb < w5.heap.size := Nat.lt_of_lt_of_le hsl H5.out.size; have l1 : z < w5.heap.size := Nat.lt_of_lt_of_le hzl0 H5.out.size; have nb : w5.heap[W.heap.size]? = some (.cells #[.pointer none, .int .i64 0] 100) := (hB5.block _ (by simp)).trans (MapKept.heap_alloc W.drew _).1; have n0 : w5.cell? ⟨W.heap.size, 0, none⟩ = some (.pointer none) := (by simp [World.cell?, nb]); have n1 : w5.cell? ⟨W.heap.size, 1, none⟩ = some (.int .i64 0) := (by simp [World.cell?, nb]); have n2 : w5.frozen? ⟨W.heap.size, 0, none⟩ = false := (by simp [World.frozen?, nb]); have n3 : w5.frozen? ⟨W.heap.size, 1, none⟩ = false := (by simp [World.frozen?, nb]); have n4 : ¬ sb = W.heap.size := (by omega); have n5 : ¬ z = W.heap.size := (by omega); have n6 : ¬ z + 1 = W.heap.size := (by omega); have n7 : ¬ W.heap.size = sb := (by omega); have n8 : ¬ W.heap.size = z := (by omega); have n9 : ¬ W.heap.size = z + 1 := (by omega); clear nb; have l2 : z + 1 < w5.heap.size := Nat.lt_of_lt_of_le hzl H5.out.size))
    · have FI : Hid ((w5.alloc (.cells #[.pointer pp, .int .i64 x2] 100)).cell? ⟨w5.heap.size, 0, none⟩ = some (.pointer pp) ∧ (w5.alloc (.cells #[.pointer pp, .int .i64 x2] 100)).cell? ⟨w5.heap.size, 1, none⟩ = some (.int .i64 x2) ∧ (w5.alloc (.cells #[.pointer pp, .int .i64 x2] 100)).cell? ⟨z, 0, none⟩ = some (.int .i64 i) ∧ (w5.alloc (.cells #[.pointer pp, .int .i64 x2] 100)).cell? ⟨z, 1, none⟩ = some (.int .i64 gen) ∧ (w5.alloc (.cells #[.pointer pp, .int .i64 x2] 100)).heap[z + 1]? = some (.cells #[.pointer none, .int .i64 0] 100) ∧ Below W.heap.size W (w5.alloc (.cells #[.pointer pp, .int .i64 x2] 100))) := by
        have hB : Below w5.heap.size w5 (w5.alloc (.cells #[.pointer pp, .int .i64 x2] 100)) := (Below.refl _ _).alloc (Nat.le_refl _) _
        exact ⟨by simp [go_sem], by simp [go_sem], cell_later hB m1, cell_later hB m2, (hB.block _ l2).trans ((H5.out.block _ hzl).trans KZ.out), H5.out.trans (hB.mono H5.out.size)⟩
      go_wp2_with fail
      go_meet
      case rel => exact ⟨_, rfl, FI⟩
    have FI : Hid (((w5.setCell ⟨W.heap.size, 0, none⟩ (.pointer pp)).setCell ⟨W.heap.size, 1, none⟩ (.int .i64 x2)).cell? ⟨W.heap.size, 0, none⟩ = some (.pointer pp) ∧ ((w5.setCell ⟨W.heap.size, 0, none⟩ (.pointer pp)).setCell ⟨W.heap.size, 1, none⟩ (.int .i64 x2)).cell? ⟨W.heap.size, 1, none⟩ = some (.int .i64 x2) ∧ ((w5.setCell ⟨W.heap.size, 0, none⟩ (.pointer pp)).setCell ⟨W.heap.size, 1, none⟩ (.int .i64 x2)).cell? ⟨z, 0, none⟩ = some (.int .i64 i) ∧ ((w5.setCell ⟨W.heap.size, 0, none⟩ (.pointer pp)).setCell ⟨W.heap.size, 1, none⟩ (.int .i64 x2)).cell? ⟨z, 1, none⟩ = some (.int .i64 gen) ∧ ((w5.setCell ⟨W.heap.size, 0, none⟩ (.pointer pp)).setCell ⟨W.heap.size, 1, none⟩ (.int .i64 x2)).heap[z + 1]? = some (.cells #[.pointer none, .int .i64 0] 100) ∧ Below W.heap.size W ((w5.setCell ⟨W.heap.size, 0, none⟩ (.pointer pp)).setCell ⟨W.heap.size, 1, none⟩ (.int .i64 x2))) := by
      refine ⟨by simp [go_sem, n0], by simp [go_sem, n1], by simp [go_sem, m1], by simp [go_sem, m2], ?_, (H5.out.setCell (p := ⟨W.heap.size, 0, none⟩) (Nat.le_refl _) _).setCell (p := ⟨W.heap.size, 1, none⟩) (Nat.le_refl _) _⟩
      exact (Below.heap_setCell _ _ _ _ n6).trans ((Below.heap_setCell _ _ _ _ n6).trans ((H5.out.block _ hzl).trans KZ.out))
    go_wp2_with fail
    go_meet
    case rel => exact ⟨_, rfl, FI⟩
  case rest =>
    obtain ⟨q, rfl, hF⟩ := hcut
    obtain ⟨e0, e1, e2, e3, e4, _⟩ := hF.out
    have u0 : wc.cell? ⟨z + 1, 0, none⟩ = some (.pointer none) := by simp [World.cell?, e4]
    have u1 : wc.cell? ⟨z + 1, 1, none⟩ = some (.int .i64 0) := by simp [World.cell?, e4]
    have u2 : wc.frozen? ⟨z + 1, 0, none⟩ = false := by simp [World.frozen?, e4]
    have u3 : wc.frozen? ⟨z + 1, 1, none⟩ = false := by simp [World.frozen?, e4]
    have HE : Hid (Below w.heap.size w wc ∧ w.heap.size ≤ z + 1) := ⟨HB.out.1.trans (hF.out.2.2.2.2.2.mono HB.out.1.size), by have := HB.out.2.2; omega⟩
    clear hF e4 c0 d0 d1 t0 t1 y0 y1
    cases pp with
    | none =>
      go_wp2_with fail
      refine bodyPost_ret (v := .tuple #[.agg #[.pointer none, .int .i64 0], .int .i64 60]) (by simp [results, Tryd.results40, go_sem, u0, u1]) rfl ⟨rfl, (HE.out.1.setCell (p := ⟨z + 1, 0, none⟩) HE.out.2 _).setCell (p := ⟨z + 1, 1, none⟩) HE.out.2 _⟩
    | some ad =>
      by_cases eg : x2 = gen
      · subst eg
        go_wp2_with fail
        refine bodyPost_ret (v := .tuple #[.agg #[.pointer (some ad), .int .i64 x2], .int .i64 0]) (by simp [results, Tryd.results40, go_sem, u0, u1]) rfl ⟨by simp, (HE.out.1.setCell (p := ⟨z + 1, 0, none⟩) HE.out.2 _).setCell (p := ⟨z + 1, 1, none⟩) HE.out.2 _⟩
      have hd : (x2 == gen) = false := by simp [eg]
      go_wp2_with fail
      all_goals refine bodyPost_ret (v := .tuple #[.agg #[.pointer none, .int .i64 0], .int .i64 60]) (by simp [results, Tryd.results40, go_sem, u0, u1]) rfl ⟨by first | rfl | simp, (HE.out.1.setCell (p := ⟨z + 1, 0, none⟩) HE.out.2 _).setCell (p := ⟨z + 1, 1, none⟩) HE.out.2 _⟩
set_option maxHeartbeats 2000000 in
theorem layW_any (sb r g N f : Nat) (ys : List (Option Nat × Int)) (v1 v2 v3 : Value) (i : Nat) (gen : Int) (c : Option Nat) (w : World) (hs : w.heap[sb]? = some (.cells #[.pointer (some ⟨r, 0, none⟩), v1, v2, v3] 102)) (h : RW w r g N f ys.length ys) (hi : i ≤ ys.length) (hlen : ys.length ≤ 65536) :
    Calls Tryd.prog 39 #[.pointer (some ⟨sb, 0, none⟩), .agg #[.int .i64 (i : Int), .int .i64 gen], pP c] w fun e w' => e = .returned (.tuple #[]) ∧ RingsW w r g (if i < ys.length then ys.set i (c, gen) else ys ++ [(c, gen)]) w' := by
  obtain ⟨pp, epp⟩ : ∃ pp : Option Addr, pp = c.map fun b => ⟨b, 0, none⟩ := ⟨_, rfl⟩
  have ep : pP c = .pointer pp := by rw [epp]; rfl
  obtain ⟨W, hW⟩ : ∃ W, W = (w.alloc (.cells #[.int .i64 (i : Int), .int .i64 gen] 38)).alloc (.cells #[.pointer pp, .int .i64 gen] 100) := ⟨_, rfl⟩
  obtain ⟨z, ez⟩ : ∃ z, z = w.heap.size := ⟨_, rfl⟩
  have B0 : Below w.heap.size w W := by rw [hW]; exact ((Below.refl _ _).alloc (Nat.le_refl _) _).alloc (by simp) _
  have sz : W.heap.size = z + 2 := by rw [hW, ez]; simp
  have kz : W.heap[z]? = some (.cells #[.int .i64 (i : Int), .int .i64 gen] 38) := by
    rw [hW, ez]
    exact (Below.heap_alloc _ _ _ (by simp)).trans (MapKept.heap_alloc _ _).1
  have kz1 : W.heap[z + 1]? = some (.cells #[.pointer pp, .int .i64 gen] 100) := by
    rw [hW, ez]
    have := (MapKept.heap_alloc (w.alloc (.cells #[.int .i64 (i : Int), .int .i64 gen] 38)) (.cells #[.pointer pp, .int .i64 gen] 100)).1
    simpa using this
  have hsW : W.heap[sb]? = some (.cells #[.pointer (some ⟨r, 0, none⟩), v1, v2, v3] 102) := (B0.block _ (Array.getElem?_eq_some_iff.1 hs).1).trans hs
  have c0 : W.cell? ⟨sb, 0, none⟩ = some (.pointer (some ⟨r, 0, none⟩)) := by simp [World.cell?, hsW]
  have d0 : W.cell? ⟨z, 0, none⟩ = some (.int .i64 (i : Int)) := by simp [World.cell?, kz]
  have t0 : W.cell? ⟨z + 1, 0, none⟩ = some (.pointer pp) := by simp [World.cell?, kz1]
  have t1 : W.cell? ⟨z + 1, 1, none⟩ = some (.int .i64 gen) := by simp [World.cell?, kz1]
  have h' := h.mono B0
  have nsr : sb ≠ r := by
    obtain ⟨cs, e, _⟩ := h.hd
    intro e2
    rw [e2, e] at hs
    injection hs with hs
    injection hs with _ e3
    exact absurd e3 (by decide)
  have nsg : sb ≠ g := by
    rcases Nat.eq_zero_or_pos N with e0 | e0
    · rw [(h.zr e0).1]
      exact nsr
    obtain ⟨cs, e, _⟩ := h.row e0
    intro e2
    rw [e2, e] at hs
    injection hs with hs
    injection hs with _ e3
    exact absurd e3 (by decide)
  have hrz := h.rlt
  have hgz := h.glt
  have CG : ∀ W', Chg W W' r g → W'.cell? ⟨sb, 0, none⟩ = some (.pointer (some ⟨r, 0, none⟩)) ∧ W'.cell? ⟨z, 0, none⟩ = some (.int .i64 (i : Int)) ∧ W'.cell? ⟨z + 1, 0, none⟩ = some (.pointer pp) ∧ W'.cell? ⟨z + 1, 1, none⟩ = some (.int .i64 gen) := fun W' hC =>
    ⟨hC.cell c0 nsr nsg, hC.cell d0 (show z ≠ r by omega) (show z ≠ g by omega), hC.cell t0 (show z + 1 ≠ r by omega) (show z + 1 ≠ g by omega), hC.cell t1 (show z + 1 ≠ r by omega) (show z + 1 ≠ g by omega)⟩
  have HW : Hid ((w.alloc (.cells #[.int .i64 (i : Int), .int .i64 gen] 38)).alloc (.cells #[.pointer pp, .int .i64 gen] 100) = W ∧ w.heap.size = z) := ⟨hW.symm, ez.symm⟩
  by_cases hil : i < ys.length
  · rw [if_pos hil]
    have ST : Hid (Calls Tryd.prog 51 #[.pointer (some ⟨r, 0, none⟩), .int .i64 (i : Int), .agg #[.pointer pp, .int .i64 gen]] W.drew fun e w' => e = .returned (.bool true) ∧ w'.cell? ⟨sb, 0, none⟩ = some (.pointer (some ⟨r, 0, none⟩)) ∧ w'.cell? ⟨z, 0, none⟩ = some (.int .i64 (i : Int)) ∧ w'.cell? ⟨z + 1, 0, none⟩ = some (.pointer pp) ∧ w'.cell? ⟨z + 1, 1, none⟩ = some (.int .i64 gen) ∧ Hid (RingsW w r g (ys.set i (c, gen)) w')) := by
      have h2 := setW_yes r g N f ys.length ys i (i : Int) c gen W.drew (h'.of_blocks rfl rfl) rfl rfl hil
      rw [ep] at h2
      refine h2.mono ?_
      rintro e w' ⟨rfl, q1, q2⟩
      have q3 : Chg W w' r g := ((Chg.refl W r g).drewN 1).trans q2 (.inl rfl)
      obtain ⟨a1, a2, a3, a4⟩ := CG w' q3
      exact ⟨rfl, a1, a2, a3, a4, RingsW.intro (by rw [List.length_set]; exact q1) ((Chg.of_below B0 r g).trans q3 (.inl rfl)) (.inl rfl)⟩
    rw [ep]
    clear h h' hs hsW kz kz1 sz ez hW B0 ep epp CG hrz hgz nsr nsg hi
    go_enter Tryd.func39, Tryd.ntmps39
    go_upto_region 2 with fail
    rw [HW.out.1, HW.out.2]
    go_region_held3 (fun w9 => w9.cell? ⟨sb, 0, none⟩ = some (.pointer (some ⟨r, 0, none⟩)) ∧ w9.cell? ⟨z, 0, none⟩ = some (.int .i64 (i : Int)) ∧ w9.cell? ⟨z + 1, 0, none⟩ = some (.pointer pp) ∧ w9.cell? ⟨z + 1, 1, none⟩ = some (.int .i64 gen)) (first | (simp [go_sem, *]; done) | (trace_state; fail))
      (first | (go_at_call 51; refine Calls.mono ST.out ?_; rintro e w5 ⟨rfl, m0, m1, m2, m3, H5⟩))
    go_wp2_with fail
    exact bodyPost_end (v := .tuple #[]) (by simp [results, Tryd.results39, go_sem]) rfl ⟨rfl, H5.out⟩
  rw [if_neg hil]
  have ST : Hid (Calls Tryd.prog 51 #[.pointer (some ⟨r, 0, none⟩), .int .i64 (i : Int), .agg #[.pointer pp, .int .i64 gen]] W.drew fun e w' => e = .returned (.bool false) ∧ w'.cell? ⟨sb, 0, none⟩ = some (.pointer (some ⟨r, 0, none⟩)) ∧ w'.cell? ⟨z, 0, none⟩ = some (.int .i64 (i : Int)) ∧ w'.cell? ⟨z + 1, 0, none⟩ = some (.pointer pp) ∧ w'.cell? ⟨z + 1, 1, none⟩ = some (.int .i64 gen) ∧ Hid (Below W.heap.size W w')) := by
    have h2 := setW_no r g N f ys.length ys (i : Int) c gen W.drew (h'.of_blocks rfl rfl) (.inr (by omega))
    rw [ep] at h2
    refine h2.mono ?_
    rintro e w' ⟨rfl, q2⟩
    have q3 : Below W.heap.size W w' := (bel_drew (Below.refl _ _)).trans q2
    exact ⟨rfl, cell_later q3 c0, cell_later q3 d0, cell_later q3 t0, cell_later q3 t1, q3⟩
  have PB : Hid (∀ w5, Below W.heap.size W w5 → Calls Tryd.prog 52 #[.pointer (some ⟨r, 0, none⟩), .agg #[.pointer pp, .int .i64 gen]] w5.drew fun e w' => e = .returned (.tuple #[]) ∧ w'.cell? ⟨sb, 0, none⟩ = some (.pointer (some ⟨r, 0, none⟩)) ∧ w'.cell? ⟨z + 1, 0, none⟩ = some (.pointer pp) ∧ w'.cell? ⟨z + 1, 1, none⟩ = some (.int .i64 gen) ∧ Hid (RingsW w r g (ys ++ [(c, gen)]) w')) := by
    intro w5 hB
    have h5 : RW w5.drew r g N f ys.length ys := (h'.mono hB).of_blocks rfl rfl
    have h2 := pushBackW_any r g N f ys c gen w5.drew h5 (by omega)
    rw [ep] at h2
    refine h2.mono ?_
    rintro e w' ⟨rfl, g', N', f', q1, q2, q3⟩
    have q4 : Chg W w' r g := (Chg.of_below (bel_drew hB) r g).trans q2 (.inl rfl)
    obtain ⟨a1, a2, a3, a4⟩ := CG w' q4
    refine ⟨rfl, a1, a3, a4, RingsW.intro q1 ((Chg.of_below B0 r g).trans q4 (.inl rfl)) ?_⟩
    rcases q3 with e | e | e
    · exact .inl e
    · exact .inr (.inl e)
    exact .inr (.inr (Nat.le_trans (Nat.le_trans B0.size hB.size) e))
  rw [ep]
  clear h h' hs hsW kz kz1 sz ez hW B0 ep epp CG hrz hgz nsr nsg hi
  go_enter Tryd.func39, Tryd.ntmps39
  go_upto_region 2 with fail
  rw [HW.out.1, HW.out.2]
  go_region_held3 (fun w9 => w9.cell? ⟨sb, 0, none⟩ = some (.pointer (some ⟨r, 0, none⟩)) ∧ w9.cell? ⟨z, 0, none⟩ = some (.int .i64 (i : Int)) ∧ w9.cell? ⟨z + 1, 0, none⟩ = some (.pointer pp) ∧ w9.cell? ⟨z + 1, 1, none⟩ = some (.int .i64 gen)) (first | (simp [go_sem, *]; done) | (trace_state; fail))
    (first | (go_at_call 51; refine Calls.mono ST.out ?_; rintro e w5 ⟨rfl, m0, m1, m2, m3, H5⟩))
  go_wp2_with fail
  go_region_held3 (fun w9 => w9.cell? ⟨sb, 0, none⟩ = some (.pointer (some ⟨r, 0, none⟩)) ∧ w9.cell? ⟨z + 1, 0, none⟩ = some (.pointer pp) ∧ w9.cell? ⟨z + 1, 1, none⟩ = some (.int .i64 gen)) (first | (simp [go_sem, *]; done) | (trace_state; fail))
    (first | (go_at_call 52; refine Calls.mono (PB.out _ H5.out) ?_; rintro e w6 ⟨rfl, p0, p1, p2, H6⟩))
  go_wp2_with fail
  exact bodyPost_end (v := .tuple #[]) (by simp [results, Tryd.results39, go_sem]) rfl ⟨rfl, H6.out⟩
def CelW (W : World) (o : Option Nat) (t : Option ByteArray) : Prop := match o, t with
  | none, none => True
  | some c, some t => W.heap[c]? = some (.cells #[Value.string t] 107)
  | _, _ => False
theorem CelW.kept {W W' : World} {o : Option Nat} {t : Option ByteArray} (h : CelW W o t) (hk : ∀ (k : Nat) (cs : Array Value), W.heap[k]? = some (.cells cs 107) → W'.heap[k]? = some (.cells cs 107)) : CelW W' o t := by
  cases o <;> cases t
  · trivial
  · exact h
  · exact h
  exact hk _ _ h
def isMW (t : TypeId) : Prop := t = 102 ∨ t = 126 ∨ t = 100 ∨ t = 113 ∨ t = 114 ∨ t = 107
def isSW (t : TypeId) : Prop := t = 102 ∨ t = 126 ∨ t = 100 ∨ t = 114
def VacW (n : Nat) (last : Int) (xs : List (Option ByteArray × Int)) (i : Nat) : Prop := i < n ∧ (xs.length ≤ i ∨ ((xs.getD i (none, 0)).1 = none ∧ (xs.getD i (none, 0)).2 < last))
structure SpW (W : World) (sb lb n : Nat) (last : Int) (cnt : Nat) (xs : List (Option ByteArray × Int)) (r g N f b L cap : Nat) (G : Nat → Nat) (ys : List (Option Nat × Int)) (S : Nat → Prop) : Prop where
  hd : W.heap[sb]? = some (.cells #[.pointer (some ⟨r, 0, none⟩), .slice (some ⟨b, 0, none⟩) L cap, .int .i64 last, .int .i64 (cnt : Int)] 102)
  ring : RW W r g N f ys.length ys
  nm : NmX W b L cap G n (Lv S) lb
  len : ys.length = xs.length
  things : ∀ i, i < xs.length → (ys.getD i (none, 0)).2 = (xs.getD i (none, 0)).2 ∧ CelW W (ys.getD i (none, 0)).1 (xs.getD i (none, 0)).1
  lo : lb ≤ sb ∧ lb ≤ r ∧ lb ≤ g
  le : xs.length ≤ n
  last1 : 1 ≤ last
  last2 : last ≤ 2147483647
  gens : ∀ i, i < xs.length → 1 ≤ (xs.getD i (none, 0)).2 ∧ (xs.getD i (none, 0)).2 ≤ last
  cn : cnt = xs.countP fun x => x.1.isSome
def SlW (W : World) (sb lb n : Nat) (last : Int) (cnt : Nat) (xs : List (Option ByteArray × Int)) : Prop := ∃ r g N f b L cap G ys, SpW W sb lb n last cnt xs r g N f b L cap G ys (VacW n last xs)
theorem SpW.kept {W W' : World} {sb lb n : Nat} {last : Int} {cnt : Nat} {xs : List (Option ByteArray × Int)} {r g N f b L cap : Nat} {G : Nat → Nat} {ys : List (Option Nat × Int)} {S : Nat → Prop} (h : SpW W sb lb n last cnt xs r g N f b L cap G ys S) (hk : ∀ (k : Nat) (cs : Array Value) (t : TypeId), W.heap[k]? = some (.cells cs t) → isMW t → W'.heap[k]? = some (.cells cs t)) : SpW W' sb lb n last cnt xs r g N f b L cap G ys S := by
  refine { h with hd := hk _ _ _ h.hd (.inl rfl), ring := h.ring.of_blocks ?_ ?_, nm := h.nm.kept fun k cs t e ht => ?_, things := fun i hi => ⟨(h.things i hi).1, (h.things i hi).2.kept fun k cs e => hk _ _ _ e (.inr (.inr (.inr (.inr (.inr rfl)))))⟩ }
  · obtain ⟨cs, e, _⟩ := h.ring.hd
    exact (hk _ _ _ e (.inr (.inl rfl))).trans e.symm
  · rcases Nat.eq_zero_or_pos N with e0 | e0
    · rw [(h.ring.zr e0).1]
      obtain ⟨cs, e, _⟩ := h.ring.hd
      exact (hk _ _ _ e (.inr (.inl rfl))).trans e.symm
    obtain ⟨cs, e, _⟩ := h.ring.row e0
    exact (hk _ _ _ e (.inr (.inr (.inl rfl)))).trans e.symm
  rcases ht with rfl | rfl
  · exact (hk _ _ _ e (.inr (.inr (.inr (.inl rfl))))).trans e.symm
  exact (hk _ _ _ e (.inr (.inr (.inr (.inr (.inl rfl)))))).trans e.symm
theorem SlW.kept {W W' : World} {sb lb n : Nat} {last : Int} {cnt : Nat} {xs : List (Option ByteArray × Int)} (h : SlW W sb lb n last cnt xs) (hk : ∀ (k : Nat) (cs : Array Value) (t : TypeId), W.heap[k]? = some (.cells cs t) → isMW t → W'.heap[k]? = some (.cells cs t)) : SlW W' sb lb n last cnt xs := by
  obtain ⟨r, g, N, f, b, L, cap, G, ys, h⟩ := h
  exact ⟨r, g, N, f, b, L, cap, G, ys, h.kept hk⟩
theorem SpW.mono {W W' : World} {sb lb n : Nat} {last : Int} {cnt : Nat} {xs : List (Option ByteArray × Int)} {r g N f b L cap : Nat} {G : Nat → Nat} {ys : List (Option Nat × Int)} {S : Nat → Prop} (h : SpW W sb lb n last cnt xs r g N f b L cap G ys S) (hB : Below W.heap.size W W') : SpW W' sb lb n last cnt xs r g N f b L cap G ys S :=
  h.kept fun k cs t e _ => (hB.block _ (Array.getElem?_eq_some_iff.1 e).1).trans e
theorem SlW.mono {W W' : World} {sb lb n : Nat} {last : Int} {cnt : Nat} {xs : List (Option ByteArray × Int)} (h : SlW W sb lb n last cnt xs) (hB : Below W.heap.size W W') : SlW W' sb lb n last cnt xs :=
  h.kept fun k cs t e _ => (hB.block _ (Array.getElem?_eq_some_iff.1 e).1).trans e
theorem SpW.cells {W : World} {sb lb n : Nat} {last : Int} {cnt : Nat} {xs : List (Option ByteArray × Int)} {r g N f b L cap : Nat} {G : Nat → Nat} {ys : List (Option Nat × Int)} {S : Nat → Prop} (h : SpW W sb lb n last cnt xs r g N f b L cap G ys S) : W.cell? ⟨sb, 0, none⟩ = some (.pointer (some ⟨r, 0, none⟩)) ∧ W.cell? ⟨sb, 1, none⟩ = some (.slice (some ⟨b, 0, none⟩) L cap) ∧ W.cell? ⟨sb, 2, none⟩ = some (.int .i64 last) ∧ W.cell? ⟨sb, 3, none⟩ = some (.int .i64 (cnt : Int)) ∧ W.frozen? ⟨sb, 3, none⟩ = false ∧ sb < W.heap.size := by
  have e := h.hd
  refine ⟨by simp [World.cell?, e], by simp [World.cell?, e], by simp [World.cell?, e], by simp [World.cell?, e], by simp [World.frozen?, e], (Array.getElem?_eq_some_iff.1 e).1⟩
def fndW (xs : List (Option ByteArray × Int)) (i gen : Int) : Option ByteArray := if 0 ≤ i ∧ i < (xs.length : Int) ∧ (xs.getD i.toNat (none, 0)).2 = gen then (xs.getD i.toNat (none, 0)).1 else none
theorem SpW.found {W : World} {sb lb n : Nat} {last : Int} {cnt : Nat} {xs : List (Option ByteArray × Int)} {r g N f b L cap : Nat} {G : Nat → Nat} {ys : List (Option Nat × Int)} {S : Nat → Prop} (h : SpW W sb lb n last cnt xs r g N f b L cap G ys S) (i gen : Int) :
    (fndW xs i gen = none ∧ hasP ys i gen = false) ∨ ∃ t c, fndW xs i gen = some t ∧ hasP ys i gen = true ∧ (atP ys i) = (some c, gen) ∧ W.heap[c]? = some (.cells #[Value.string t] 107) ∧ 0 ≤ i ∧ i.toNat < xs.length ∧ xs.getD i.toNat (none, 0) = (some t, gen) := by
  unfold fndW hasP atP
  by_cases hr : 0 ≤ i ∧ i < (xs.length : Int)
  · rw [if_pos (show 0 ≤ i ∧ i < (ys.length : Int) by rw [h.len]; exact hr)]
    obtain ⟨h1, h2⟩ := h.things i.toNat (by omega)
    generalize ys.getD i.toNat (none, 0) = y at h1 h2 ⊢
    generalize xs.getD i.toNat (none, 0) = x at h1 h2 ⊢
    obtain ⟨y1, y2⟩ := y
    obtain ⟨x1, x2⟩ := x
    simp only at h1 h2 ⊢
    subst h1
    by_cases eg : y2 = gen
    · subst eg
      rw [if_pos ⟨hr.1, hr.2, rfl⟩]
      cases y1 <;> cases x1
      · exact .inl ⟨rfl, rfl⟩
      · exact h2.elim
      · exact h2.elim
      exact .inr ⟨_, _, rfl, by simp, rfl, h2, hr.1, by omega, rfl⟩
    rw [if_neg (by omega)]
    exact .inl ⟨rfl, by simp [eg]⟩
  rw [if_neg (show ¬ (0 ≤ i ∧ i < (ys.length : Int)) by rw [h.len]; exact hr), if_neg (by omega)]
  exact .inl ⟨rfl, rfl⟩
set_option maxHeartbeats 1000000 in
theorem getW_any {w : World} {sb lb n : Nat} {last : Int} {cnt : Nat} {xs : List (Option ByteArray × Int)} (h : SlW w sb lb n last cnt xs) (i gen : Int) :
    Calls Tryd.prog 25 #[.pointer (some ⟨sb, 0, none⟩), .agg #[.int .i64 i, .int .i64 gen]] w fun e w' => e = .returned (match fndW xs i gen with | some t => .tuple #[Value.string t, .int .i64 0] | none => .tuple #[(.string ⟨#[]⟩), .int .i64 60]) ∧ Below w.heap.size w w' := by
  obtain ⟨r, g, N, f, b, L, cap, G, ys, h⟩ := h
  obtain ⟨W, hW⟩ : ∃ W, W = w.alloc (.cells #[.int .i64 i, .int .i64 gen] 38) := ⟨_, rfl⟩
  have B0 : Below w.heap.size w W := by rw [hW]; exact (Below.refl _ _).alloc (Nat.le_refl _) _
  have h' := h.mono B0
  have F := findW_any sb r g N f ys _ _ _ i gen W h'.hd h'.ring
  have HW : Hid (w.alloc (.cells #[.int .i64 i, .int .i64 gen] 38) = W ∧ Below w.heap.size w W) := ⟨hW.symm, B0⟩
  rcases h'.found i gen with ⟨e1, e2⟩ | ⟨t, c, e1, e2, e3, e4, _⟩
  · rw [e1]
    rw [e2] at F
    have HF : Hid _ := F
    clear F e1 e2 h h' hW B0
    go_enter Tryd.func25, Tryd.ntmps25
    go_wp2_with fail
    rw [HW.out.1]
    refine Calls.mono HF.out ?_
    rintro e w1 ⟨rfl, hB⟩
    have H1 : Hid (Below w.heap.size w (w1.alloc (.cells #[.pointer none, .int .i64 0] 100))) := (HW.out.2.trans (hB.mono HW.out.2.size)).alloc (Nat.le_trans HW.out.2.size hB.size) _
    clear hB
    simp only [Bool.false_eq_true, if_false]
    go_wp2_with fail
    go_ret2
    exact ⟨rfl, H1.out⟩
  rw [e1]
  rw [e2, e3] at F
  have HF : Hid _ := F
  have HC : Hid (W.heap[c]? = some (.cells #[Value.string t] 107)) := e4
  clear F e1 e2 e3 e4 h h' hW B0
  go_enter Tryd.func25, Tryd.ntmps25
  go_wp2_with fail
  rw [HW.out.1]
  refine Calls.mono HF.out ?_
  rintro e w1 ⟨rfl, hB⟩
  have ec : w1.heap[c]? = some (.cells #[Value.string t] 107) := (hB.block _ (Array.getElem?_eq_some_iff.1 HC.out).1).trans HC.out
  have hcl : c < w1.heap.size := (Array.getElem?_eq_some_iff.1 ec).1
  have cc : (w1.alloc (.cells #[.pointer (some ⟨c, 0, none⟩), .int .i64 gen] 100)).cell? ⟨c, 0, none⟩ = some (Value.string t) := by
    rw [World.cell?_of_block (Below.heap_alloc _ _ _ hcl)]
    simp [World.cell?, ec]
  have H1 : Hid (Below w.heap.size w (w1.alloc (.cells #[.pointer (some ⟨c, 0, none⟩), .int .i64 gen] 100))) := (HW.out.2.trans (hB.mono HW.out.2.size)).alloc (Nat.le_trans HW.out.2.size hB.size) _
  clear hB ec
  simp only [if_true, pP, Option.map]
  go_wp2_with fail
  go_ret2
  exact ⟨rfl, H1.out⟩
end Go.Proofs.YtdobjanhmllloaaDoor
namespace Go.Proofs.YtdobjanhmllloaaDoor
open Go.RowKit
set_option maxRecDepth 100000
set_option linter.unusedVariables false
theorem nm_lowerW {W : World} {b L cap : Nat} {G : Nat → Nat} {n : Nat} {T : Nat → Nat → Prop} {lb lb' : Nat} (h : NmX W b L cap G n T lb) (hl : lb' ≤ lb) : NmX W b L cap G n T lb' :=
  { h with lo := Nat.le_trans hl h.lo, row := fun k hk => ⟨Nat.le_trans hl (h.row k hk).1, (h.row k hk).2⟩ }
theorem lv_congrW {S S' : Nat → Prop} (e : ∀ x, S x ↔ S' x) (k y : Nat) : Lv S k y ↔ Lv S' k y := ⟨Lv.mono fun x h => (e x).1 h, Lv.mono fun x h => (e x).2 h⟩
section
variable {W W' : World} {sb lb n : Nat} {last : Int} {cnt : Nat} {xs : List (Option ByteArray × Int)} {r g N f b L cap : Nat} {G : Nat → Nat} {ys : List (Option Nat × Int)} {S : Nat → Prop}
theorem SpW.rg (h : SpW W sb lb n last cnt xs r g N f b L cap G ys S) {k : Nat} (hk : k = r ∨ k = g) : ∃ cs t, W.heap[k]? = some (.cells cs t) ∧ (t = 126 ∨ t = 100) ∧ lb ≤ k := by
  rcases hk with rfl | rfl
  · obtain ⟨cs, e, _⟩ := h.ring.hd
    exact ⟨cs, _, e, .inl rfl, h.lo.2.1⟩
  rcases Nat.eq_zero_or_pos N with e0 | e0
  · rw [(h.ring.zr e0).1]
    obtain ⟨cs, e, _⟩ := h.ring.hd
    exact ⟨cs, _, e, .inl rfl, h.lo.2.1⟩
  obtain ⟨cs, e, _⟩ := h.ring.row e0
  exact ⟨cs, _, e, .inr rfl, h.lo.2.2⟩
theorem SpW.other (h : SpW W sb lb n last cnt xs r g N f b L cap G ys S) (hC : Chg W W' r g) {k : Nat} {o : Obj} (hk : W.heap[k]? = some o) (ho : ∀ cs t z, o = .cells cs t z → t ≠ 126 ∧ t ≠ 100) : W'.heap[k]? = some o := by
  have ne : ∀ x, (x = r ∨ x = g) → k ≠ x := fun x hx e => by
    obtain ⟨cs, t, e1, e2, _⟩ := h.rg hx
    rw [e, e1] at hk
    cases hk
    rcases e2 with e2 | e2
    · exact (ho _ _ _ rfl).1 e2
    exact (ho _ _ _ rfl).2 e2
  exact (hC.block k (Array.getElem?_eq_some_iff.1 hk).1 (ne r (.inl rfl)) (ne g (.inr rfl))).trans hk
theorem SpW.after (h : SpW W sb lb n last cnt xs r g N f b L cap G ys S) (hC : Chg W W' r g) : W'.heap[sb]? = W.heap[sb]? ∧ NmX W' b L cap G n (Lv S) lb ∧ (∀ o t, CelW W o t → CelW W' o t) ∧ Ft isSW lb W W' := by
  refine ⟨(h.other hC h.hd fun cs t z e => by cases e; exact ⟨by decide, by decide⟩).trans h.hd.symm, h.nm.kept fun k cs t e ht => (h.other hC e fun cs' t' z e2 => ?_).trans e.symm, fun o t hc => hc.kept fun k cs e => h.other hC e fun cs' t' z e2 => ?_, hC.os, hC.tape, hC.output, hC.size, fun k h1 h2 => hC.block k h2 (by have := h.lo; omega) (by have := h.lo; omega), fun k o e ho => h.other hC e fun cs t z e2 => ⟨fun e3 => ho _ _ _ e2 (.inr (.inl e3)), fun e3 => ho _ _ _ e2 (.inr (.inr (.inl e3)))⟩⟩
  · cases e2
    rcases ht with rfl | rfl
    · exact ⟨by decide, by decide⟩
    exact ⟨by decide, by decide⟩
  cases e2
  exact ⟨by decide, by decide⟩
end
set_option maxHeartbeats 1000000 in
theorem newW_yes (n : Nat) (last : Int) (w : World) (h1 : 1 ≤ n) (h2 : n ≤ 65536) (h3 : 1 ≤ last) (h4 : last ≤ 2147483647) :
    Calls Tryd.prog 22 #[.int .i64 (n : Int), .int .i64 last] w fun e w' => ∃ sb, e = .returned (.tuple #[.pointer (some ⟨sb, 0, none⟩), .int .i64 0]) ∧ SlW w' sb w.heap.size n last 0 [] ∧ Below w.heap.size w w' := by
  have d1 : ¬ (n : Int) < 1 := by omega
  have d2 : ¬ (65536 : Int) < (n : Int) := by omega
  have d3 : ¬ last < 1 := by omega
  have d4 : ¬ 2147483647 < last := by omega
  have b1 : decide ((n : Int) < 1) = false := decide_eq_false d1
  have b2 : decide ((65536 : Int) < (n : Int)) = false := decide_eq_false d2
  have b3 : decide (last < 1) = false := decide_eq_false d3
  have b4 : decide ((2147483647 : Int) < last) = false := decide_eq_false d4
  have n1 : ¬ n < 1 := by omega
  have n2 : ¬ 65536 < n := by omega
  go_enter Tryd.func22, Tryd.ntmps22
  go_wp2_with fail
  refine Calls.mono (newW_any w) ?_
  rintro e w1 ⟨rfl, q1, q2⟩
  have H1 : Hid (RW w1 w.heap.size w.heap.size 0 0 0 [] ∧ Below w.heap.size w w1) := ⟨q1, q2⟩
  clear q1 q2
  go_wp2_with fail
  refine Calls.mono (below_any n w1 h1 h2) ?_
  rintro e w2 ⟨b, L, cap, G, rfl, q1, q2⟩
  have H2 : Hid (NmX w2 b L cap G n (Lv fun x => x < n) w1.heap.size ∧ Below w1.heap.size w1 w2) := ⟨q1, q2⟩
  clear q1 q2
  go_wp2_with fail
  go_ret2
  refine ⟨_, rfl, ⟨w.heap.size, w.heap.size, 0, 0, b, L, cap, G, [], ?_⟩, ?_⟩
  · have B3 : Below w2.heap.size w2 (w2.alloc (.cells #[.pointer (some ⟨w.heap.size, 0, none⟩), .slice (some ⟨b, 0, none⟩) L cap, .int .i64 last, .int .i64 0] 102)) := (Below.refl _ _).alloc (Nat.le_refl _) _
    have s1 := H1.out.2.size
    have s2 := H2.out.2.size
    refine ⟨(MapKept.heap_alloc _ _).1, (H1.out.1.mono H2.out.2).mono B3, ?_, rfl, fun i hi => by simp at hi, ⟨by omega, Nat.le_refl _, Nat.le_refl _⟩, Nat.zero_le _, h3, h4, fun i hi => by simp at hi, rfl⟩
    refine (nm_lowerW (H2.out.1.kept fun k cs t e _ => B3.block _ (Array.getElem?_eq_some_iff.1 e).1) s1).congr fun k _ y => lv_congrW (fun x => ?_) k y
    unfold VacW
    simp
  exact (H1.out.2.trans (H2.out.2.mono H1.out.2.size)).alloc (Nat.le_trans H1.out.2.size H2.out.2.size) _
theorem getD_setW {α : Type} (xs : List α) (i : Nat) (v z : α) (hi : i < xs.length) (j : Nat) : (xs.set i v).getD j z = if j = i then v else xs.getD j z := by
  simp only [List.getD_eq_getElem?_getD, List.getElem?_set]
  by_cases e : i = j
  · subst e; simp [hi]
  simp [e, Ne.symm e]
theorem vac_dropW {n : Nat} {last : Int} {xs : List (Option ByteArray × Int)} {i : Nat} {t : ByteArray} {gen : Int} (hi : i < xs.length) (he : xs.getD i (none, 0) = (some t, gen)) (hn : xs.length ≤ n) (j : Nat) : VacW n last (xs.set i (none, gen)) j ↔ (VacW n last xs j ∨ (j = i ∧ gen < last)) := by
  unfold VacW
  rw [List.length_set, getD_setW _ _ _ _ hi]
  by_cases e : j = i
  · subst e
    rw [if_pos rfl, he]
    simp
    omega
  rw [if_neg e]
  simp [e]
theorem count_dropW {xs : List (Option ByteArray × Int)} {i : Nat} {t : ByteArray} {gen : Int} (hi : i < xs.length) (he : xs.getD i (none, 0) = (some t, gen)) : xs.countP (fun x => x.1.isSome) = (xs.set i (none, gen)).countP (fun x => x.1.isSome) + 1 := by
  have h1 := List.countP_set (p := fun x : Option ByteArray × Int => x.1.isSome) (a := ((none, gen) : Option ByteArray × Int)) hi
  have h2 : xs[i] = (some t, gen) := by
    rw [List.getD_eq_getElem?_getD, List.getElem?_eq_getElem hi] at he
    exact he
  rw [h2] at h1
  have h3 : 0 < xs.countP (fun x => x.1.isSome) := List.countP_pos_iff.2 ⟨xs[i], List.getElem_mem hi, by rw [h2]; rfl⟩
  simp at h1
  omega
end Go.Proofs.YtdobjanhmllloaaDoor
