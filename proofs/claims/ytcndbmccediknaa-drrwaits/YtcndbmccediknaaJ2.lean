/- Contracts of the program's functions, part 2: own work, joined in build order. -/
import Derived.Test.YtcndbmccediknaaJ1
namespace Go.Proofs.Ytcndbmccediknaa
open Go.RowKit
set_option maxRecDepth 100000
set_option linter.unusedVariables false
theorem hasP_yes (r g N f c : Nat) (xs : List Pk) (i : Int) (w : World) (h : RP w r g N f c xs) (h0 : 0 ≤ i) (h1 : i < c) : Calls Try.prog 63 #[.pointer (some ⟨r, 0, none⟩), .int .i64 i] w fun e w' => e = .returned (.bool true) ∧ w' = w := by
  have c2 := h.c2
  have d0 : decide (0 ≤ i) = true := decide_eq_true h0
  have d1 : decide (i < (c : Int)) = true := decide_eq_true h1
  clear h h0 h1
  go_enter Try.func63, Try.ntmps63
  go_wp2_with fail
  go_ret
  exact ⟨rfl, rfl⟩
set_option maxHeartbeats 4000000 in
theorem atP_yes (r g N f c : Nat) (xs : List Pk) (j : Nat) (i : Int) (w : World) (h : RP w r g N f c xs) (hi : i = j) (h1 : j < c) : Calls Try.prog 50 #[.pointer (some ⟨r, 0, none⟩), .int .i64 i] w fun e w' => e = .returned (.tuple #[(xs.getD j Pk.zero).val, .bool true]) ∧ Below w.heap.size w w' := by
  subst hi
  have hcN := h.cl
  have hN : 0 < N := by omega
  have hl := h.lim
  have B0 : Below w.heap.size w (w.alloc (.cells #[.int .i64 0, .int .i64 0, .int .i64 0, .int .i64 0, .int .i64 0, .int .i64 0] 49)) := (Below.refl _ _).alloc (Nat.le_refl _) _
  obtain ⟨W, hW⟩ : ∃ W, W = w.alloc (.cells #[.int .i64 0, .int .i64 0, .int .i64 0, .int .i64 0, .int .i64 0, .int .i64 0] 49) := ⟨_, rfl⟩
  obtain ⟨v, ev⟩ : ∃ v, v = w.heap.size := ⟨_, rfl⟩
  have hB : W.heap[v]? = some (.cells #[.int .i64 0, .int .i64 0, .int .i64 0, .int .i64 0, .int .i64 0, .int .i64 0] 49) := by rw [hW, ev]; exact (MapKept.heap_alloc _ _).1
  rw [← hW] at B0
  have h' := h.mono B0
  have hvr : r < v := by rw [ev]; exact h.rlt
  have hvg : g < v := by rw [ev]; exact h.glt
  have HH : Hid (RP W r g N f c xs ∧ Below w.heap.size w W ∧ v = w.heap.size) := ⟨h', B0, ev⟩
  obtain ⟨k, ek⟩ : ∃ k, k = (f + j) % N := ⟨_, rfl⟩
  have hk : k < N := by rw [ek]; exact Nat.mod_lt _ hN
  obtain ⟨x, ex⟩ : ∃ x, x = xs.getD j Pk.zero := ⟨_, rfl⟩
  have ck0 := h'.at (by omega) (i := j) (by omega) (j := 0) (by omega)
  have ck1 := h'.at (by omega) (i := j) (by omega) (j := 1) (by omega)
  have ck2 := h'.at (by omega) (i := j) (by omega) (j := 2) (by omega)
  have ck3 := h'.at (by omega) (i := j) (by omega) (j := 3) (by omega)
  have ck4 := h'.at (by omega) (i := j) (by omega) (j := 4) (by omega)
  have ck5 := h'.at (by omega) (i := j) (by omega) (j := 5) (by omega)
  rw [← ek, ← ex] at ck0 ck1 ck2 ck3 ck4 ck5
  simp only [Nat.add_zero, encPk] at ck0 ck1 ck2 ck3 ck4 ck5
  have c0 := h'.c0 hN
  have v0 : W.cell? ⟨v, 0, none⟩ = some (.int .i64 0) := by simp [World.cell?, hB]
  have z0 : W.frozen? ⟨v, 0, none⟩ = false := by simp [World.frozen?, hB]
  have v1 : W.cell? ⟨v, 1, none⟩ = some (.int .i64 0) := by simp [World.cell?, hB]
  have z1 : W.frozen? ⟨v, 1, none⟩ = false := by simp [World.frozen?, hB]
  have v2 : W.cell? ⟨v, 2, none⟩ = some (.int .i64 0) := by simp [World.cell?, hB]
  have z2 : W.frozen? ⟨v, 2, none⟩ = false := by simp [World.frozen?, hB]
  have v3 : W.cell? ⟨v, 3, none⟩ = some (.int .i64 0) := by simp [World.cell?, hB]
  have z3 : W.frozen? ⟨v, 3, none⟩ = false := by simp [World.frozen?, hB]
  have v4 : W.cell? ⟨v, 4, none⟩ = some (.int .i64 0) := by simp [World.cell?, hB]
  have z4 : W.frozen? ⟨v, 4, none⟩ = false := by simp [World.frozen?, hB]
  have v5 : W.cell? ⟨v, 5, none⟩ = some (.int .i64 0) := by simp [World.cell?, hB]
  have z5 : W.frozen? ⟨v, 5, none⟩ = false := by simp [World.frozen?, hB]
  have IX : Hid (∀ nd, Calls Try.prog 45 #[.pointer (some ⟨r, 0, none⟩), .int .i64 (j : Int)] (W.drewN nd) fun e w' => e = .returned (.int .i64 (k : Int)) ∧ ∃ n, w' = (W.drewN nd).drewN n) := fun nd => indexP_any r g N f c xs (j : Int) k (W.drewN nd) (h'.of_blocks rfl rfl) hN (by omega) (by omega) hk (by rw [ek]; simp)
  have HW : Hid (w.alloc (.cells #[.int .i64 0, .int .i64 0, .int .i64 0, .int .i64 0, .int .i64 0, .int .i64 0] 49) = W ∧ w.heap.size = v) := ⟨hW.symm, ev.symm⟩
  obtain ⟨a0, a1, a2, a3, a4, a5⟩ := x
  rw [← ex]
  have n1 : ¬ v = r := by omega
  have n2 : ¬ v = g := by omega
  have n3 : ¬ r = v := by omega
  have n4 : ¬ g = v := by omega
  clear h h' ek hB B0 ex ev hW hvr hvg
  go_enter Try.func50, Try.ntmps50
  go_wp2_with fail
  rw [HW.out.1, HW.out.2]
  refine (hasP_yes r g N f c xs (j : Int) _ HH.out.1 (by omega) (by omega)).mono ?_
  rintro e w1 ⟨rfl, e1⟩
  rw [e1]
  clear e1
  go_wp2_with fail
  go_region_held3 (fun w' => w'.cell? ⟨r, 0, none⟩ = some (.slice (some ⟨g, 0, none⟩) N N) ∧ w'.cell? ⟨g, k * 6, none⟩ = some (.int .i64 a0) ∧ w'.cell? ⟨g, k * 6 + 1, none⟩ = some (.int .i64 a1) ∧ w'.cell? ⟨g, k * 6 + 2, none⟩ = some (.int .i64 a2) ∧ w'.cell? ⟨g, k * 6 + 3, none⟩ = some (.int .i64 a3) ∧ w'.cell? ⟨g, k * 6 + 4, none⟩ = some (.int .i64 a4) ∧ w'.cell? ⟨g, k * 6 + 5, none⟩ = some (.int .i64 a5)) (first | (simp [go_sem, *]; done) | (trace_state; fail))
    (first
      | (go_at_call 45; refine Calls.mono (IX.out 1) ?_; rintro e w1 ⟨rfl, n, rfl⟩))
  go_wp2_with fail
  refine bodyPost_ret (v := .tuple #[.agg #[.int .i64 a0, .int .i64 a1, .int .i64 a2, .int .i64 a3, .int .i64 a4, .int .i64 a5], .bool true]) (by simp [results, Try.results50, go_sem, *]) rfl ⟨rfl, ?_⟩
  repeat' first
    | with_reducible refine Below.setCell ?_ (by show _ ≤ v; have := HH.out.2.2; omega) _
    | with_reducible refine bel_drewN ?_ _
    | with_reducible refine bel_drew ?_
    | exact HH.out.2.1
end Go.Proofs.Ytcndbmccediknaa
namespace Go.Proofs.Ytcndbmccediknaa
open Go.RowKit
set_option linter.unusedVariables false
theorem getD_far {α : Type} (xs : List α) {j : Nat} (z : α) (h : xs.length ≤ j) : xs.getD j z = z := by simp [List.getD_eq_getElem?_getD, h]
theorem emod_shift (n a M : Int) : (n % M + a) % M = (n + a) % M := by
  rw [Int.add_emod, Int.emod_emod, ← Int.add_emod]
section
variable {α : Type} {enc : α → Value} {z : α} {T t : TypeId} {w : World} {r g N f c : Nat} {xs : List α}
theorem mod_back {N f j : Nat} (hf : f < N) (hj : j < N) : (j + N - (f + N - 1) % N) % N = ((j + N - f) % N + 1) % N := by
  rw [Nat.mod_add_mod]
  rcases Nat.eq_zero_or_pos f with e | e
  · subst e
    rw [Nat.zero_add, Nat.mod_eq_of_lt (show N - 1 < N by omega), show j + N - (N - 1) = j + 1 by omega, Nat.sub_zero, show j + N + 1 = j + 1 + N by omega, Nat.add_mod_right]
  rw [show f + N - 1 = f - 1 + N by omega, Nat.add_mod_right, Nat.mod_eq_of_lt (show f - 1 < N by omega), show j + N - (f - 1) = j + N - f + 1 by omega]
theorem mod_on {N f j : Nat} (hf : f < N) (hj : j < N) : (j + N - (f + 1) % N) % N = ((j + N - f) % N + (N - 1)) % N := by
  rw [Nat.mod_add_mod]
  rcases Nat.lt_or_ge (f + 1) N with e | e
  · rw [Nat.mod_eq_of_lt e, show j + N - f + (N - 1) = j + N - (f + 1) + N by omega, Nat.add_mod_right]
  obtain rfl : N = f + 1 := by omega
  rw [Nat.mod_self, Nat.sub_zero, show j + (f + 1) - f + (f + 1 - 1) = j + (f + 1) by omega]
theorem Rw.cons (h : Rw enc z T t w r g N f xs.length xs) (hx : xs.length < N) (v : α) {k : Nat} (hk : k = (f + N - 1) % N) :
    Rw enc z T t (((w.setCell ⟨r, 1, none⟩ (.int .i64 (k : Int))).setCell ⟨g, k, none⟩ (enc v)).setCell ⟨r, 2, none⟩ (.int .i64 ((xs.length : Int) + 1))) r g N k (v :: xs).length (v :: xs) := by
  have hN : 0 < N := by omega
  have hf := h.fl hN
  have hkN : k < N := by rw [hk]; exact Nat.mod_lt _ hN
  have h1 := h.setFirst hN hkN (ys := z :: xs) (by simp; omega) (fun j hj => by
    rw [hk, mod_back hf hj]
    obtain ⟨i, ei⟩ : ∃ i, i = (j + N - f) % N := ⟨_, rfl⟩
    have hi : i < N := by rw [ei]; exact Nat.mod_lt _ hN
    rw [← ei]
    rcases Nat.lt_or_ge (i + 1) N with e | e
    · rw [Nat.mod_eq_of_lt e]
      rfl
    rw [show i + 1 = N by omega, Nat.mod_self, List.getD_cons_zero, getD_far _ _ (by omega)])
  have h2 := h1.set (i := 0) hN v (ys := v :: xs) (by simp; omega) (fun j _ => by
    rcases j with _ | j
    · rfl
    rfl)
  rw [Nat.add_zero, Nat.mod_eq_of_lt hkN] at h2
  have h3 := h2.setCount (c' := (v :: xs).length) (by simp; omega)
  rw [show (((v :: xs).length : Nat) : Int) = (xs.length : Int) + 1 by simp] at h3
  exact h3
theorem getD_erase (xs : List α) (i j : Nat) (z : α) : (xs.eraseIdx i).getD j z = if j < i then xs.getD j z else xs.getD (j + 1) z := by
  simp only [List.getD_eq_getElem?_getD, List.getElem?_eraseIdx]
  split <;> rfl
theorem Rw.closedF {ys : List α} {i : Nat} (h : Rw enc z T t w r g N f c ys) (hx : 0 < xs.length) (hl : xs.length ≤ N) (hi : i < xs.length) (hy : ∀ j, ys.getD j z = if j = 0 then z else if j ≤ i then xs.getD (j - 1) z else xs.getD j z) :
    Rw enc z T t (w.setCell ⟨r, 1, none⟩ (.int .i64 (((f + 1) % N : Nat) : Int))) r g N ((f + 1) % N) c (xs.eraseIdx i) := by
  have hN : 0 < N := by omega
  have hf := h.fl hN
  have hle : (xs.eraseIdx i).length + 1 = xs.length := by rw [List.length_eraseIdx, if_pos hi]; omega
  refine h.setFirst hN (Nat.mod_lt _ hN) (by omega) fun j hj => ?_
  rw [mod_on hf hj]
  obtain ⟨k, ek⟩ : ∃ k, k = (j + N - f) % N := ⟨_, rfl⟩
  have hk : k < N := by rw [ek]; exact Nat.mod_lt _ hN
  rw [← ek, hy k]
  rcases Nat.eq_zero_or_pos k with e | e
  · subst e
    rw [Nat.zero_add, Nat.mod_eq_of_lt (show N - 1 < N by omega), if_pos rfl, getD_far _ _ (by omega)]
  rw [show k + (N - 1) = k - 1 + N by omega, Nat.add_mod_right, Nat.mod_eq_of_lt (show k - 1 < N by omega), if_neg (by omega), getD_erase]
  by_cases e2 : k ≤ i
  · rw [if_pos (by omega), if_pos e2]
  rw [if_neg (by omega), if_neg e2, show k - 1 + 1 = k by omega]
end
def rl {α : Type} (k : Nat) (xs : List α) : List α := xs.drop k ++ xs.take k
def rt {α : Type} (n : Int) (xs : List α) : List α := rl (n % (xs.length : Int)).toNat xs
section
variable {α : Type}
theorem rl_length (k : Nat) (xs : List α) : (rl k xs).length = xs.length := by
  unfold rl
  simp
  omega
theorem rt_zero (xs : List α) : rt 0 xs = xs := by unfold rt rl; simp
theorem rt_mod (n m : Int) (xs : List α) (h : n % (xs.length : Int) = m % (xs.length : Int)) : rt n xs = rt m xs := by unfold rt; rw [h]
theorem rt_front (n : Int) (y : α) (ys : List α) : rt n (y :: ys) = rt (n - 1) (ys ++ [y]) := by
  unfold rt
  have e1 : ((y :: ys).length : Int) = (ys.length : Int) + 1 := by simp
  have e2 : ((ys ++ [y]).length : Int) = (ys.length : Int) + 1 := by simp
  rw [e1, e2]
  obtain ⟨k, ek⟩ : ∃ k : Nat, n % ((ys.length : Int) + 1) = k := ⟨(n % ((ys.length : Int) + 1)).toNat, (Int.toNat_of_nonneg (Int.emod_nonneg _ (by omega))).symm⟩
  have hk : (k : Int) < (ys.length : Int) + 1 := by rw [← ek]; exact Int.emod_lt_of_pos _ (by omega)
  have e3 : (n - 1) % ((ys.length : Int) + 1) = ((k : Int) - 1) % ((ys.length : Int) + 1) := by rw [← ek, Int.sub_eq_add_neg, Int.sub_eq_add_neg, emod_shift]
  rw [e3, ek]
  rcases k with _ | k
  · rw [show (((0 : Nat) : Int) - 1) % ((ys.length : Int) + 1) = (ys.length : Int) by
      rw [show (((0 : Nat) : Int) - 1) = (ys.length : Int) + (-1) * ((ys.length : Int) + 1) by omega, Int.add_mul_emod_self_right, Int.emod_eq_of_lt (by omega) (by omega)]]
    unfold rl
    simp
  rw [show ((((k + 1 : Nat) : Int)) - 1) = (k : Int) by omega, Int.emod_eq_of_lt (by omega) (by omega)]
  unfold rl
  simp only [Int.toNat_natCast, List.drop_succ_cons, List.take_succ_cons]
  rw [List.drop_append_of_le_length (by omega), List.take_append_of_le_length (by omega)]
  simp
theorem rt_back (n : Int) (y : α) (ys : List α) : rt n (ys ++ [y]) = rt (n + 1) (y :: ys) := by
  rw [rt_front]
  congr 1
  omega
theorem rt_nil (n : Int) : rt n ([] : List α) = [] := by unfold rt rl; simp
theorem rt_tmod (n q : Int) (xs : List α) (h : n.tmod (xs.length : Int) = q) : rt q xs = rt n xs := rt_mod _ _ _ (by rw [← h, Int.tmod_def, Int.sub_eq_add_neg, ← Int.mul_neg, Int.add_mul_emod_self_left])
theorem rt_add (n : Int) (xs : List α) : rt (n + (xs.length : Int)) xs = rt n xs := rt_mod _ _ _ (by rw [Int.add_emod_right])
theorem rt_sub (n : Int) (xs : List α) : rt (n - (xs.length : Int)) xs = rt n xs := rt_mod _ _ _ (by rw [Int.sub_emod_right])
end
end Go.Proofs.Ytcndbmccediknaa
namespace Go.Proofs.Ytcndbmccediknaa
open Go.RowKit
set_option maxRecDepth 100000
set_option linter.unusedVariables false
theorem RwK.closedF {α : Type} {K : Nat} {enc : α → Nat → Value} {z : α} {T t : TypeId} {w : World} {r g N f c : Nat} {xs : List α} {ys : List α} {i : Nat} (h : RwK K enc z T t w r g N f c ys) (hx : 0 < xs.length) (hl : xs.length ≤ N) (hi : i < xs.length) (hy : ∀ j, ys.getD j z = if j = 0 then z else if j ≤ i then xs.getD (j - 1) z else xs.getD j z) :
    RwK K enc z T t (w.setCell ⟨r, 1, none⟩ (.int .i64 (((f + 1) % N : Nat) : Int))) r g N ((f + 1) % N) c (xs.eraseIdx i) := by
  have hN : 0 < N := by omega
  have hf := h.fl hN
  have hle : (xs.eraseIdx i).length + 1 = xs.length := by rw [List.length_eraseIdx, if_pos hi]; omega
  refine h.setFirst hN (Nat.mod_lt _ hN) (by omega) fun j hj => ?_
  rw [mod_on hf hj]
  obtain ⟨k, ek⟩ : ∃ k, k = (j + N - f) % N := ⟨_, rfl⟩
  have hk : k < N := by rw [ek]; exact Nat.mod_lt _ hN
  rw [← ek, hy k]
  rcases Nat.eq_zero_or_pos k with e | e
  · subst e
    rw [Nat.zero_add, Nat.mod_eq_of_lt (show N - 1 < N by omega), if_pos rfl, getD_far _ _ (by omega)]
  rw [show k + (N - 1) = k - 1 + N by omega, Nat.add_mod_right, Nat.mod_eq_of_lt (show k - 1 < N by omega), if_neg (by omega), getD_erase]
  by_cases e2 : k ≤ i
  · rw [if_pos (by omega), if_pos e2]
  rw [if_neg (by omega), if_neg e2, show k - 1 + 1 = k by omega]
set_option maxHeartbeats 4000000 in
theorem emptyP_at (r g N f c : Nat) (xs : List Pk) (j : Nat) (i : Int) (w : World) (h : RP w r g N f c xs) (hi : i = j) (hj : j < xs.length) :
    Calls Try.prog 69 #[.pointer (some ⟨r, 0, none⟩), .int .i64 i] w fun e w' => e = .returned (.tuple #[]) ∧ RP w' r g N f c (xs.set j Pk.zero) ∧ Chg w w' r g := by
  subst hi
  have hjN : j < N := Nat.lt_of_lt_of_le hj h.len
  have hN : 0 < N := by omega
  have hl := h.lim
  have hne := h.ne hN
  obtain ⟨W, hW⟩ : ∃ W, W = w.alloc (.cells #[.int .i64 0, .int .i64 0, .int .i64 0, .int .i64 0, .int .i64 0, .int .i64 0] 49) := ⟨_, rfl⟩
  obtain ⟨v, ev⟩ : ∃ v, v = w.heap.size := ⟨_, rfl⟩
  have B0 : Below w.heap.size w W := by rw [hW]; exact (Below.refl _ _).alloc (Nat.le_refl _) _
  have hB : W.heap[v]? = some (.cells #[.int .i64 0, .int .i64 0, .int .i64 0, .int .i64 0, .int .i64 0, .int .i64 0] 49) := by rw [hW, ev]; exact (MapKept.heap_alloc _ _).1
  have h' := h.mono B0
  obtain ⟨k, ek⟩ : ∃ k, k = (f + j) % N := ⟨_, rfl⟩
  have hk : k < N := by rw [ek]; exact Nat.mod_lt _ hN
  have ck0 := h'.at (by omega) (i := j) hjN (j := 0) (by omega)
  have fk0 := h'.fg hN (k * 6)
  have ck1 := h'.at (by omega) (i := j) hjN (j := 1) (by omega)
  have fk1 := h'.fg hN (k * 6 + 1)
  have ck2 := h'.at (by omega) (i := j) hjN (j := 2) (by omega)
  have fk2 := h'.fg hN (k * 6 + 2)
  have ck3 := h'.at (by omega) (i := j) hjN (j := 3) (by omega)
  have fk3 := h'.fg hN (k * 6 + 3)
  have ck4 := h'.at (by omega) (i := j) hjN (j := 4) (by omega)
  have fk4 := h'.fg hN (k * 6 + 4)
  have ck5 := h'.at (by omega) (i := j) hjN (j := 5) (by omega)
  have fk5 := h'.fg hN (k * 6 + 5)
  rw [← ek] at ck0 ck1 ck2 ck3 ck4 ck5
  simp only [Nat.add_zero] at ck0
  obtain ⟨y0, ck0⟩ : ∃ y, W.cell? ⟨g, k * 6, none⟩ = some y := ⟨_, ck0⟩
  obtain ⟨y1, ck1⟩ : ∃ y, W.cell? ⟨g, k * 6 + 1, none⟩ = some y := ⟨_, ck1⟩
  obtain ⟨y2, ck2⟩ : ∃ y, W.cell? ⟨g, k * 6 + 2, none⟩ = some y := ⟨_, ck2⟩
  obtain ⟨y3, ck3⟩ : ∃ y, W.cell? ⟨g, k * 6 + 3, none⟩ = some y := ⟨_, ck3⟩
  obtain ⟨y4, ck4⟩ : ∃ y, W.cell? ⟨g, k * 6 + 4, none⟩ = some y := ⟨_, ck4⟩
  obtain ⟨y5, ck5⟩ : ∃ y, W.cell? ⟨g, k * 6 + 5, none⟩ = some y := ⟨_, ck5⟩
  have v0 : W.cell? ⟨v, 0, none⟩ = some (.int .i64 0) := by simp [World.cell?, hB]
  have v1 : W.cell? ⟨v, 1, none⟩ = some (.int .i64 0) := by simp [World.cell?, hB]
  have v2 : W.cell? ⟨v, 2, none⟩ = some (.int .i64 0) := by simp [World.cell?, hB]
  have v3 : W.cell? ⟨v, 3, none⟩ = some (.int .i64 0) := by simp [World.cell?, hB]
  have v4 : W.cell? ⟨v, 4, none⟩ = some (.int .i64 0) := by simp [World.cell?, hB]
  have v5 : W.cell? ⟨v, 5, none⟩ = some (.int .i64 0) := by simp [World.cell?, hB]
  have c0 := h'.c0 hN
  have IX : Hid (∀ nd, Calls Try.prog 45 #[.pointer (some ⟨r, 0, none⟩), .int .i64 (j : Int)] (W.drewN nd) fun e w' => e = .returned (.int .i64 (k : Int)) ∧ ∃ n, w' = (W.drewN nd).drewN n) := fun nd => indexP_any r g N f c xs (j : Int) k (W.drewN nd) (h'.of_blocks rfl rfl) hN (by omega) (by omega) hk (by rw [ek]; simp)
  have FH : Hid (∀ nd, RP ((((((((((((W.drewN nd).setCell ⟨g, k * 6, none⟩ (.int .i64 0))).setCell ⟨g, k * 6 + 1, none⟩ (.int .i64 0))).setCell ⟨g, k * 6 + 2, none⟩ (.int .i64 0))).setCell ⟨g, k * 6 + 3, none⟩ (.int .i64 0))).setCell ⟨g, k * 6 + 4, none⟩ (.int .i64 0))).setCell ⟨g, k * 6 + 5, none⟩ (.int .i64 0)) r g N f c (xs.set j Pk.zero) ∧ Chg w ((((((((((((W.drewN nd).setCell ⟨g, k * 6, none⟩ (.int .i64 0))).setCell ⟨g, k * 6 + 1, none⟩ (.int .i64 0))).setCell ⟨g, k * 6 + 2, none⟩ (.int .i64 0))).setCell ⟨g, k * 6 + 3, none⟩ (.int .i64 0))).setCell ⟨g, k * 6 + 4, none⟩ (.int .i64 0))).setCell ⟨g, k * 6 + 5, none⟩ (.int .i64 0)) r g) := fun nd => by
    have h2 := (show RP (W.drewN nd) r g N f c xs from h'.of_blocks rfl rfl).set (by omega) hjN Pk.zero (ys := xs.set j Pk.zero) (by simpa using h.len) (fun i hi => getD_set _ _ _ _ hj i)
    rw [← ek, encPk_list] at h2
    exact ⟨h2, (((((((Chg.of_below B0 r g).drewN nd).setG _ _).setG _ _).setG _ _).setG _ _).setG _ _).setG _ _⟩
  have HE : Hid (w.alloc (.cells #[.int .i64 0, .int .i64 0, .int .i64 0, .int .i64 0, .int .i64 0, .int .i64 0] 49) = W ∧ w.heap.size = v) := ⟨hW.symm, ev.symm⟩
  have n1 : ¬ v = g := by have := h.glt; omega
  have n2 : ¬ g = v := fun e => n1 e.symm
  have n3 : ¬ v = r := by have := h.rlt; omega
  have n4 : ¬ r = v := fun e => n3 e.symm
  clear h h' ek hB B0 hW ev
  go_enter Try.func69, Try.ntmps69
  go_wp2_with fail
  rw [HE.out.1, HE.out.2]
  go_wp2_with fail
  go_region_held3 (fun w' => w'.cell? ⟨r, 0, none⟩ = some (.slice (some ⟨g, 0, none⟩) N N) ∧ w'.cell? ⟨v, 0, none⟩ = some (.int .i64 0) ∧ w'.cell? ⟨v, 1, none⟩ = some (.int .i64 0) ∧ w'.cell? ⟨v, 2, none⟩ = some (.int .i64 0) ∧ w'.cell? ⟨v, 3, none⟩ = some (.int .i64 0) ∧ w'.cell? ⟨v, 4, none⟩ = some (.int .i64 0) ∧ w'.cell? ⟨v, 5, none⟩ = some (.int .i64 0)) (first | (simp [go_sem, *]; done) | (trace_state; fail))
    (first
      | (go_at_call 45; refine Calls.mono (IX.out _) ?_; rintro e w1 ⟨rfl, n, rfl⟩))
  go_wp2_with fail
  exact bodyPost_end (v := .tuple #[]) (by simp [results, Try.results69, go_sem]) rfl ⟨rfl, FH.out _⟩
set_option maxHeartbeats 2000000 in
theorem closeFP_first (r g N f : Nat) (x : Pk) (xs : List Pk) (w : World) (h : RP w r g N f (x :: xs).length (x :: xs)) :
    Calls Try.prog 60 #[.pointer (some ⟨r, 0, none⟩), .int .i64 0] w fun e w' => e = .returned (.tuple #[]) ∧ RP w' r g N ((f + 1) % N) (x :: xs).length xs ∧ Chg w w' r g := by
  have hcN := h.cl
  have hN : 0 < N := by simp at hcN; omega
  have hl := h.lim
  have H0 : Hid (RP w r g N f (x :: xs).length (x :: xs)) := h
  clear h
  go_enter Try.func60, Try.ntmps60
  go_wp2_with fail
  go_loopw [1] (fun q wr => q = .int .i64 0 ∧ wr = w) (fun _ _ => 0)
  case atStart => exact ⟨rfl, rfl⟩
  case round =>
    obtain ⟨rfl, rfl⟩ := hrel
    go_wp2_with fail
    refine (emptyP_at r g N f _ _ 0 0 _ H0.out rfl (by simp)).mono ?_
    rintro e w1 ⟨rfl, h1, hc1⟩
    have c1 := h1.c1
    have z1 := h1.fz 1
    obtain ⟨p, ep⟩ : ∃ p, p = (f + 1) % N := ⟨_, rfl⟩
    have HP : Hid (p = (f + 1) % N ∧ p < N) := ⟨ep, by rw [ep]; exact Nat.mod_lt _ hN⟩
    have FH : Hid (∀ nd, RP ((w1.drewN nd).setCell ⟨r, 1, none⟩ (.int .i64 (p : Int))) r g N ((f + 1) % N) (x :: xs).length xs ∧ Chg wr ((w1.drewN nd).setCell ⟨r, 1, none⟩ (.int .i64 (p : Int))) r g) := fun nd => by
      rw [ep]
      refine ⟨(show RP (w1.drewN nd) r g N f (x :: xs).length (Pk.zero :: xs) from h1.of_blocks rfl rfl).closedF (xs := x :: xs) (i := 0) (by simp) hcN (by simp) fun j => ?_, hc1.trans (((Chg.refl w1 r g).drewN nd).setR 1 _) (.inl rfl)⟩
      rcases j with _ | j
      · rfl
      rw [if_neg (by omega), if_neg (by omega)]
      rfl
    have H1 : Hid (RP w1 r g N f (x :: xs).length (Pk.zero :: xs)) := h1
    clear h1 hc1 ep
    go_wp2_with fail
    refine (indexP_any r g N f _ _ 1 p w1 H1.out hN (by omega) (by omega) HP.out.2 (by rw [HP.out.1]; simp)).mono ?_
    rintro e w2 ⟨rfl, nd, rfl⟩
    go_wp2_with fail
    exact bodyPost_end (v := .tuple #[]) (by simp [results, Try.results60, go_sem]) rfl ⟨rfl, FH.out nd⟩
set_option maxHeartbeats 2000000 in
theorem closeBP_last (r g N f n : Nat) (x : Pk) (xs : List Pk) (w : World) (h : RP w r g N f (xs ++ [x]).length (xs ++ [x])) (hn : n = xs.length) :
    Calls Try.prog 61 #[.pointer (some ⟨r, 0, none⟩), .int .i64 (n : Int)] w fun e w' => e = .returned (.tuple #[]) ∧ RP w' r g N f (xs ++ [x]).length xs ∧ Chg w w' r g := by
  have hcN := h.cl
  have hl := h.lim
  have c2 := h.c2
  have e1 : (xs ++ [x]).length = n + 1 := by simp [hn]
  rw [e1] at hcN c2
  have hd : decide ((n : Int) < ((n + 1 : Nat) : Int) - 1) = false := decide_eq_false (by omega)
  have hd2 : ((n + 1 : Nat) : Int) - 1 = (n : Int) := by omega
  have hd3 : IntKind.i64.wrap (n : Int) = (n : Int) := by rw [IntKind.wrap_i64]; omega
  have H0 : Hid (RP w r g N f (xs ++ [x]).length (xs ++ [x]) ∧ n = xs.length) := ⟨h, hn⟩
  clear h e1 hn
  go_enter Try.func61, Try.ntmps61
  go_wp2_with fail
  go_loopw [1] (fun q wr => q = .int .i64 (n : Int) ∧ wr = w) (fun _ _ => 0)
  case atStart => exact ⟨rfl, rfl⟩
  case round =>
    obtain ⟨rfl, rfl⟩ := hrel
    go_wp2_with fail
    refine (emptyP_at r g N f _ _ n n _ H0.out.1 rfl (by rw [H0.out.2]; simp)).mono ?_
    rintro e w1 ⟨rfl, h1, hc1⟩
    have FH : Hid (RP w1 r g N f (xs ++ [x]).length xs ∧ Chg wr w1 r g) := by
      refine ⟨h1.congr (by have := H0.out.1.len; simp at this; omega) fun j hj => ?_, hc1⟩
      rw [getD_set _ _ _ _ (by rw [H0.out.2]; simp), H0.out.2]
      by_cases e : j = xs.length
      · rw [if_pos e, getD_far _ _ (by omega)]
      rw [if_neg e]
      by_cases e2 : j < xs.length
      · rw [List.getD_eq_getElem?_getD, List.getD_eq_getElem?_getD, List.getElem?_append_left e2]
      rw [getD_far _ _ (by simp; omega), getD_far _ _ (by omega)]
    clear h1 hc1
    go_wp2_with fail
    exact bodyPost_end (v := .tuple #[]) (by simp [results, Try.results61, go_sem]) rfl ⟨rfl, FH.out⟩
set_option maxHeartbeats 1000000 in
theorem narrowP_any (r g N f : Nat) (xs : List Pk) (w : World) (h : RP w r g N f xs.length xs) :
    Calls Try.prog 62 #[.pointer (some ⟨r, 0, none⟩)] w fun e w' => e = .returned (.tuple #[]) ∧ RingsP w r g xs w' := by
  obtain ⟨p, ep⟩ : ∃ p, p = pt g N := ⟨_, rfl⟩
  have c0 : w.cell? ⟨r, 0, none⟩ = some (.slice p N N) := by rw [ep]; exact h.hd.cell (i := 0) (by omega)
  have c2 := h.c2
  have hl := h.lim
  have hcN := h.cl
  obtain ⟨n, en⟩ : ∃ n, n = xs.length := ⟨_, rfl⟩
  rw [← en] at c2 hcN
  have HH : Hid (RP w r g N f xs.length xs ∧ n = xs.length) := ⟨h, en⟩
  by_cases e4 : 4 < N
  · have hd : decide ((4 : Int) < (N : Int)) = true := decide_eq_true (by omega)
    have hd' : decide (4 < N) = true := decide_eq_true (by omega)
    by_cases e5 : n ≤ N / 4
    · have hd5 : decide ((n : Int) ≤ (N : Int) / 4) = true := decide_eq_true (by omega)
      have hd6 : decide (n ≤ N / 4) = true := decide_eq_true (by omega)
      obtain ⟨m, em⟩ : ∃ m, m = N / 2 := ⟨_, rfl⟩
      have hm : (N : Int) / 2 = (m : Int) := by omega
      have HM : Hid ((∃ k, m = 2 ^ (k + 2)) ∧ n ≤ m ∧ m ≤ 1099511627776) := by
        refine ⟨?_, by omega, by omega⟩
        obtain ⟨k, hk⟩ := h.pow (by omega)
        rcases k with _ | k
        · rw [hk] at e4; omega
        have hk2 : 2 ^ (k + 1 + 2) = 2 ^ (k + 2) * 2 := Nat.pow_succ ..
        exact ⟨k, by rw [hk2] at hk; omega⟩
      clear h ep em en e4 e5
      go_enter Try.func62, Try.ntmps62
      go_wp2_with fail
      go_quiet (fail)
      go_wp2_with fail
      refine (moveP_any r g _ f _ m xs (w.drewN nq) (HH.out.1.of_blocks rfl rfl) rfl (by have := HH.out.2; have := HM.out.2.1; omega) HM.out.1 HM.out.2.2).mono ?_
      rintro e w1 ⟨rfl, h1, h2⟩
      go_wp2_with fail
      exact bodyPost_end (v := .tuple #[]) (by simp [results, Try.results62, go_sem]) rfl ⟨rfl, RingsP.intro h1 (((Chg.refl w r g).drewN nq).trans h2 (.inr (.inl rfl))) (.inr (.inr (Nat.le_refl _)))⟩
    have hd5 : decide ((n : Int) ≤ (N : Int) / 4) = false := decide_eq_false (by omega)
    have hd6 : decide (n ≤ N / 4) = false := decide_eq_false (by omega)
    clear h ep en e4 e5
    go_enter Try.func62, Try.ntmps62
    go_wp2_with fail
    go_quiet (fail)
    go_wp2_with fail
    exact bodyPost_end (v := .tuple #[]) (by simp [results, Try.results62, go_sem]) rfl ⟨rfl, RingsP.intro (HH.out.1.of_blocks rfl rfl) ((Chg.refl w r g).drewN nq) (.inl rfl)⟩
  have hd : decide ((4 : Int) < (N : Int)) = false := decide_eq_false (by omega)
  have hd' : decide (4 < N) = false := decide_eq_false (by omega)
  clear h ep en e4
  go_enter Try.func62, Try.ntmps62
  go_wp2_with fail
  go_quiet (fail)
  go_wp2_with fail
  exact bodyPost_end (v := .tuple #[]) (by simp [results, Try.results62, go_sem]) rfl ⟨rfl, RingsP.intro (HH.out.1.of_blocks rfl rfl) ((Chg.refl w r g).drewN nq) (.inl rfl)⟩
theorem setV_ne {w : World} {v k i : Nat} {x : Value} (h : k ≠ v) : (w.setCell ⟨v, i, none⟩ x).heap[k]? = w.heap[k]? := Below.heap_setCell _ _ _ k h
theorem Chg.setV {a b : World} {r g v : Nat} (h : Chg a b r g) (hv : a.heap.size ≤ v) (i : Nat) (x : Value) : Chg a (b.setCell ⟨v, i, none⟩ x) r g :=
  ⟨h.os, h.tape, h.output, by simpa using h.size, fun k hk h1 h2 => (Below.heap_setCell _ _ _ k (by show k ≠ v; omega)).trans (h.block k hk h1 h2)⟩
set_option maxHeartbeats 4000000 in
theorem takeP_first (r g N f : Nat) (x : Pk) (xs : List Pk) (hn : 0 < xs.length) (w : World) (h : RP w r g N f (x :: xs).length (x :: xs)) : Calls Try.prog 49 #[.pointer (some ⟨r, 0, none⟩), .int .i64 0] w fun e w' => e = .returned (.tuple #[x.val, .bool true]) ∧ RingsP w r g xs w' := by
  obtain ⟨a0, a1, a2, a3, a4, a5⟩ := x
  obtain ⟨n, hn1⟩ : ∃ n, n = xs.length := ⟨_, rfl⟩
  have hn0 : 0 < n := by omega
  have el : ((⟨a0, a1, a2, a3, a4, a5⟩ : Pk) :: xs).length = n + 1 := by simp [hn1]
  have eg : ((⟨a0, a1, a2, a3, a4, a5⟩ : Pk) :: xs).getD 0 Pk.zero = ⟨a0, a1, a2, a3, a4, a5⟩ := by simp
  have hl := h.lim
  have hcN := h.cl
  rw [el] at hcN
  obtain ⟨W, hW⟩ : ∃ W, W = w.alloc (.cells #[.int .i64 0, .int .i64 0, .int .i64 0, .int .i64 0, .int .i64 0, .int .i64 0] 49) := ⟨_, rfl⟩
  obtain ⟨v, ev⟩ : ∃ v, v = w.heap.size := ⟨_, rfl⟩
  have B0 : Below w.heap.size w W := by rw [hW]; exact (Below.refl _ _).alloc (Nat.le_refl _) _
  have hB : W.heap[v]? = some (.cells #[.int .i64 0, .int .i64 0, .int .i64 0, .int .i64 0, .int .i64 0, .int .i64 0] 49) := by rw [hW, ev]; exact (MapKept.heap_alloc _ _).1
  have HH : Hid (RP W r g N f ((⟨a0, a1, a2, a3, a4, a5⟩ : Pk) :: xs).length ((⟨a0, a1, a2, a3, a4, a5⟩ : Pk) :: xs) ∧ Below w.heap.size w W ∧ v = w.heap.size ∧ v < W.heap.size ∧ W.heap[v]? = some (.cells #[.int .i64 0, .int .i64 0, .int .i64 0, .int .i64 0, .int .i64 0, .int .i64 0] 49) ∧ r < v ∧ g < v) := ⟨h.mono B0, B0, ev, (Array.getElem?_eq_some_iff.1 hB).1, hB, by rw [ev]; exact h.rlt, by rw [ev]; exact h.glt⟩
  have HE : Hid (w.alloc (.cells #[.int .i64 0, .int .i64 0, .int .i64 0, .int .i64 0, .int .i64 0, .int .i64 0] 49) = W ∧ w.heap.size = v) := ⟨hW.symm, ev.symm⟩
  have HN : Hid (n = xs.length) := hn1
  have HG : Hid (((⟨a0, a1, a2, a3, a4, a5⟩ : Pk) :: xs).getD 0 Pk.zero = ⟨a0, a1, a2, a3, a4, a5⟩ ∧ ((⟨a0, a1, a2, a3, a4, a5⟩ : Pk) :: xs).length = n + 1) := ⟨eg, el⟩
  clear h B0 hB hW ev eg el hn hn1
  go_enter Try.func49, Try.ntmps49
  go_wp2_with fail
  rw [HE.out.1, HE.out.2]
  refine (atP_yes r g N f _ ((⟨a0, a1, a2, a3, a4, a5⟩ : Pk) :: xs) 0 0 W HH.out.1 rfl (by rw [HG.out.2]; omega)).mono ?_
  rintro e w1 ⟨rfl, hb⟩
  rw [HG.out.1, show (⟨a0, a1, a2, a3, a4, a5⟩ : Pk).val = .agg #[.int .i64 a0, .int .i64 a1, .int .i64 a2, .int .i64 a3, .int .i64 a4, .int .i64 a5] from rfl]
  have hv : w1.heap[v]? = some (.cells #[.int .i64 0, .int .i64 0, .int .i64 0, .int .i64 0, .int .i64 0, .int .i64 0] 49) := (hb.block v HH.out.2.2.2.1).trans HH.out.2.2.2.2.1
  have v0 : w1.cell? ⟨v, 0, none⟩ = some (.int .i64 0) := by simp [World.cell?, hv]
  have z0 : w1.frozen? ⟨v, 0, none⟩ = false := by simp [World.frozen?, hv]
  have v1 : w1.cell? ⟨v, 1, none⟩ = some (.int .i64 0) := by simp [World.cell?, hv]
  have z1 : w1.frozen? ⟨v, 1, none⟩ = false := by simp [World.frozen?, hv]
  have v2 : w1.cell? ⟨v, 2, none⟩ = some (.int .i64 0) := by simp [World.cell?, hv]
  have z2 : w1.frozen? ⟨v, 2, none⟩ = false := by simp [World.frozen?, hv]
  have v3 : w1.cell? ⟨v, 3, none⟩ = some (.int .i64 0) := by simp [World.cell?, hv]
  have z3 : w1.frozen? ⟨v, 3, none⟩ = false := by simp [World.frozen?, hv]
  have v4 : w1.cell? ⟨v, 4, none⟩ = some (.int .i64 0) := by simp [World.cell?, hv]
  have z4 : w1.frozen? ⟨v, 4, none⟩ = false := by simp [World.frozen?, hv]
  have v5 : w1.cell? ⟨v, 5, none⟩ = some (.int .i64 0) := by simp [World.cell?, hv]
  have z5 : w1.frozen? ⟨v, 5, none⟩ = false := by simp [World.frozen?, hv]
  obtain ⟨W2, hW2⟩ : ∃ W2, W2 = ((((((((((((w1).setCell ⟨v, 0, none⟩ (.int .i64 a0))).setCell ⟨v, 1, none⟩ (.int .i64 a1))).setCell ⟨v, 2, none⟩ (.int .i64 a2))).setCell ⟨v, 3, none⟩ (.int .i64 a3))).setCell ⟨v, 4, none⟩ (.int .i64 a4))).setCell ⟨v, 5, none⟩ (.int .i64 a5)) := ⟨_, rfl⟩
  have HX : Hid (((((((((((((w1).setCell ⟨v, 0, none⟩ (.int .i64 a0))).setCell ⟨v, 1, none⟩ (.int .i64 a1))).setCell ⟨v, 2, none⟩ (.int .i64 a2))).setCell ⟨v, 3, none⟩ (.int .i64 a3))).setCell ⟨v, 4, none⟩ (.int .i64 a4))).setCell ⟨v, 5, none⟩ (.int .i64 a5)) = W2) := hW2.symm
  have D0 : Below w.heap.size w1 W2 := by
    rw [hW2]
    exact ((((((Below.refl _ _).setCell (by rw [HE.out.2]; exact Nat.le_refl v) _).setCell (by rw [HE.out.2]; exact Nat.le_refl v) _).setCell (by rw [HE.out.2]; exact Nat.le_refl v) _).setCell (by rw [HE.out.2]; exact Nat.le_refl v) _).setCell (by rw [HE.out.2]; exact Nat.le_refl v) _).setCell (by rw [HE.out.2]; exact Nat.le_refl v) _
  have D1 : Below w.heap.size w W2 := (HH.out.2.1.trans (hb.mono (by have := HH.out.2.1.size; omega))).trans D0
  have R1 : RP w1 r g N f ((⟨a0, a1, a2, a3, a4, a5⟩ : Pk) :: xs).length ((⟨a0, a1, a2, a3, a4, a5⟩ : Pk) :: xs) := HH.out.1.mono hb
  have R2 : RP W2 r g N f ((⟨a0, a1, a2, a3, a4, a5⟩ : Pk) :: xs).length ((⟨a0, a1, a2, a3, a4, a5⟩ : Pk) :: xs) := R1.of_blocks (D0.block _ (by have := HH.out; omega)) (D0.block _ (by have := HH.out; omega))
  have q0 : W2.cell? ⟨v, 0, none⟩ = some (.int .i64 a0) := by rw [hW2]; simp [go_sem, v0]
  have q1 : W2.cell? ⟨v, 1, none⟩ = some (.int .i64 a1) := by rw [hW2]; simp [go_sem, v1]
  have q2 : W2.cell? ⟨v, 2, none⟩ = some (.int .i64 a2) := by rw [hW2]; simp [go_sem, v2]
  have q3 : W2.cell? ⟨v, 3, none⟩ = some (.int .i64 a3) := by rw [hW2]; simp [go_sem, v3]
  have q4 : W2.cell? ⟨v, 4, none⟩ = some (.int .i64 a4) := by rw [hW2]; simp [go_sem, v4]
  have q5 : W2.cell? ⟨v, 5, none⟩ = some (.int .i64 a5) := by rw [hW2]; simp [go_sem, v5]
  have vW2 : v < W2.heap.size := World.block_lt_of_cell? _ _ q0
  have r2 := R1.c2
  rw [HG.out.2] at r2
  have n1 : ¬ v = r := by have := HH.out; omega
  have n2 : ¬ r = v := by have := HH.out; omega
  have H2 : Hid (RP W2 r g N f ((⟨a0, a1, a2, a3, a4, a5⟩ : Pk) :: xs).length ((⟨a0, a1, a2, a3, a4, a5⟩ : Pk) :: xs) ∧ Below w.heap.size w W2 ∧ v < W2.heap.size) := ⟨R2, D1, vW2⟩
  have QQ : Hid (W2.cell? ⟨v, 0, none⟩ = some (.int .i64 a0) ∧ W2.cell? ⟨v, 1, none⟩ = some (.int .i64 a1) ∧ W2.cell? ⟨v, 2, none⟩ = some (.int .i64 a2) ∧ W2.cell? ⟨v, 3, none⟩ = some (.int .i64 a3) ∧ W2.cell? ⟨v, 4, none⟩ = some (.int .i64 a4) ∧ W2.cell? ⟨v, 5, none⟩ = some (.int .i64 a5)) := ⟨q0, q1, q2, q3, q4, q5⟩
  have OO : Hid (W2.frozen? ⟨v, 0, none⟩ = false ∧ W2.frozen? ⟨v, 1, none⟩ = false ∧ W2.frozen? ⟨v, 2, none⟩ = false ∧ W2.frozen? ⟨v, 3, none⟩ = false ∧ W2.frozen? ⟨v, 4, none⟩ = false ∧ W2.frozen? ⟨v, 5, none⟩ = false) := by
    rw [hW2]
    exact ⟨by simp [go_sem, z0], by simp [go_sem, z1], by simp [go_sem, z2], by simp [go_sem, z3], by simp [go_sem, z4], by simp [go_sem, z5]⟩
  have w1' : ((n + 1 : Nat) : Int) - 1 = (n : Int) := by omega
  have w2' : IntKind.i64.wrap (n : Int) = (n : Int) := by rw [IntKind.wrap_i64]; omega
  have hdd : decide ((0 : Int) < (n : Int)) = true := decide_eq_true (by omega)
  clear hb hv hW2 D0 D1 R1 R2 vW2 q0 q1 q2 q3 q4 q5
  go_wp2_with fail
  rw [HX.out]
  refine (closeFP_first r g N f ⟨a0, a1, a2, a3, a4, a5⟩ xs W2 H2.out.1).mono ?_
  rintro e w2 ⟨rfl, h2, h3⟩
  have x2 := h2.c2
  rw [HG.out.2] at x2
  have z2' := h2.fz 2
  have h2l := h2.lim
  have h2c : xs.length ≤ N := h2.len
  have HF : Hid (RP (w2.setCell ⟨r, 2, none⟩ (.int .i64 (n : Int))) r g N ((f + 1) % N) xs.length xs ∧ Chg w (w2.setCell ⟨r, 2, none⟩ (.int .i64 (n : Int))) r g ∧ v < w2.heap.size ∧ w2.heap[v]? = W2.heap[v]?) := by
    have t1 := h2.setCount (c' := n) (by have := HN.out; omega)
    rw [HN.out] at t1 ⊢
    exact ⟨t1, ((Chg.of_below H2.out.2.1 r g).trans h3 (.inl rfl)).setR 2 _, Nat.lt_of_lt_of_le H2.out.2.2 h3.size, h3.block v H2.out.2.2 (by have := HH.out; omega) (by have := HH.out; omega)⟩
  clear h2 h3
  go_wp2_with fail
  refine (narrowP_any r g N _ xs _ HF.out.1).mono ?_
  rintro e w3 ⟨rfl, g', N', f', h4, h5, h6⟩
  have hv3 : w3.heap[v]? = W2.heap[v]? := (h5.block v (by simp; exact HF.out.2.2.1) (by have := HH.out; omega) (by have := HH.out; omega)).trans ((Below.heap_setCell _ _ _ v (by show v ≠ r; have := HH.out; omega)).trans HF.out.2.2.2)
  have q0 : w3.cell? ⟨v, 0, none⟩ = some (.int .i64 a0) := (World.cell?_of_block (a := ⟨v, 0, none⟩) hv3).trans QQ.out.1
  have o0 : w3.frozen? ⟨v, 0, none⟩ = false := (World.frozen?_of_block (a := ⟨v, 0, none⟩) hv3).trans OO.out.1
  have q1 : w3.cell? ⟨v, 1, none⟩ = some (.int .i64 a1) := (World.cell?_of_block (a := ⟨v, 1, none⟩) hv3).trans QQ.out.2.1
  have o1 : w3.frozen? ⟨v, 1, none⟩ = false := (World.frozen?_of_block (a := ⟨v, 1, none⟩) hv3).trans OO.out.2.1
  have q2 : w3.cell? ⟨v, 2, none⟩ = some (.int .i64 a2) := (World.cell?_of_block (a := ⟨v, 2, none⟩) hv3).trans QQ.out.2.2.1
  have o2 : w3.frozen? ⟨v, 2, none⟩ = false := (World.frozen?_of_block (a := ⟨v, 2, none⟩) hv3).trans OO.out.2.2.1
  have q3 : w3.cell? ⟨v, 3, none⟩ = some (.int .i64 a3) := (World.cell?_of_block (a := ⟨v, 3, none⟩) hv3).trans QQ.out.2.2.2.1
  have o3 : w3.frozen? ⟨v, 3, none⟩ = false := (World.frozen?_of_block (a := ⟨v, 3, none⟩) hv3).trans OO.out.2.2.2.1
  have q4 : w3.cell? ⟨v, 4, none⟩ = some (.int .i64 a4) := (World.cell?_of_block (a := ⟨v, 4, none⟩) hv3).trans QQ.out.2.2.2.2.1
  have o4 : w3.frozen? ⟨v, 4, none⟩ = false := (World.frozen?_of_block (a := ⟨v, 4, none⟩) hv3).trans OO.out.2.2.2.2.1
  have q5 : w3.cell? ⟨v, 5, none⟩ = some (.int .i64 a5) := (World.cell?_of_block (a := ⟨v, 5, none⟩) hv3).trans QQ.out.2.2.2.2.2
  have o5 : w3.frozen? ⟨v, 5, none⟩ = false := (World.frozen?_of_block (a := ⟨v, 5, none⟩) hv3).trans OO.out.2.2.2.2.2
  have HR : Hid (RingsP w r g xs (((((((((((((w3).setCell ⟨v, 0, none⟩ (.int .i64 a0))).setCell ⟨v, 1, none⟩ (.int .i64 a1))).setCell ⟨v, 2, none⟩ (.int .i64 a2))).setCell ⟨v, 3, none⟩ (.int .i64 a3))).setCell ⟨v, 4, none⟩ (.int .i64 a4))).setCell ⟨v, 5, none⟩ (.int .i64 a5)))) := by
    have hw : w.heap.size ≤ v := by rw [HE.out.2]; exact Nat.le_refl v
    have hg' : g' ≠ v := by
      have := HH.out
      have h7 := HF.out.2.2.1
      rcases h6 with e | e | e
      · omega
      · omega
      simp at e; omega
    have k0 : Chg w w3 r g := HF.out.2.1.trans h5 (.inl rfl)
    refine ⟨g', N', f', h4.of_blocks ?_ ?_, ?_, ?_⟩
    · have hrv : r ≠ v := by have := HH.out; omega
      iterate 6 rw [setV_ne hrv]
    · iterate 6 rw [setV_ne hg']
    · exact ((((((k0.setV hw _ _).setV hw _ _).setV hw _ _).setV hw _ _).setV hw _ _).setV hw _ _)
    rcases h6 with e | e | e
    · exact .inl e
    · exact .inr (.inl e)
    exact .inr (.inr (by have := k0.size; have h8 := HF.out.2.1.size; simp at e h8; omega))
  clear h4 h5 h6 hv3
  go_wp2_with fail
  exact bodyPost_ret (v := .tuple #[.agg #[.int .i64 a0, .int .i64 a1, .int .i64 a2, .int .i64 a3, .int .i64 a4, .int .i64 a5], .bool true]) (by simp [results, Try.results49, go_sem, *]) rfl ⟨rfl, HR.out⟩
set_option maxHeartbeats 4000000 in
theorem takeP_last (r g N f : Nat) (x : Pk) (xs : List Pk) (n : Nat) (hn : n = xs.length) (w : World) (h : RP w r g N f (xs ++ [x]).length (xs ++ [x])) : Calls Try.prog 49 #[.pointer (some ⟨r, 0, none⟩), .int .i64 (n : Int)] w fun e w' => e = .returned (.tuple #[x.val, .bool true]) ∧ RingsP w r g xs w' := by
  obtain ⟨a0, a1, a2, a3, a4, a5⟩ := x
  have hn1 := hn
  have el : (xs ++ [(⟨a0, a1, a2, a3, a4, a5⟩ : Pk)]).length = n + 1 := by simp [hn1]
  have eg : (xs ++ [(⟨a0, a1, a2, a3, a4, a5⟩ : Pk)]).getD xs.length Pk.zero = ⟨a0, a1, a2, a3, a4, a5⟩ := by simp
  have hl := h.lim
  have hcN := h.cl
  rw [el] at hcN
  obtain ⟨W, hW⟩ : ∃ W, W = w.alloc (.cells #[.int .i64 0, .int .i64 0, .int .i64 0, .int .i64 0, .int .i64 0, .int .i64 0] 49) := ⟨_, rfl⟩
  obtain ⟨v, ev⟩ : ∃ v, v = w.heap.size := ⟨_, rfl⟩
  have B0 : Below w.heap.size w W := by rw [hW]; exact (Below.refl _ _).alloc (Nat.le_refl _) _
  have hB : W.heap[v]? = some (.cells #[.int .i64 0, .int .i64 0, .int .i64 0, .int .i64 0, .int .i64 0, .int .i64 0] 49) := by rw [hW, ev]; exact (MapKept.heap_alloc _ _).1
  have HH : Hid (RP W r g N f (xs ++ [(⟨a0, a1, a2, a3, a4, a5⟩ : Pk)]).length (xs ++ [(⟨a0, a1, a2, a3, a4, a5⟩ : Pk)]) ∧ Below w.heap.size w W ∧ v = w.heap.size ∧ v < W.heap.size ∧ W.heap[v]? = some (.cells #[.int .i64 0, .int .i64 0, .int .i64 0, .int .i64 0, .int .i64 0, .int .i64 0] 49) ∧ r < v ∧ g < v) := ⟨h.mono B0, B0, ev, (Array.getElem?_eq_some_iff.1 hB).1, hB, by rw [ev]; exact h.rlt, by rw [ev]; exact h.glt⟩
  have HE : Hid (w.alloc (.cells #[.int .i64 0, .int .i64 0, .int .i64 0, .int .i64 0, .int .i64 0, .int .i64 0] 49) = W ∧ w.heap.size = v) := ⟨hW.symm, ev.symm⟩
  have HN : Hid (n = xs.length) := hn1
  have HG : Hid ((xs ++ [(⟨a0, a1, a2, a3, a4, a5⟩ : Pk)]).getD xs.length Pk.zero = ⟨a0, a1, a2, a3, a4, a5⟩ ∧ (xs ++ [(⟨a0, a1, a2, a3, a4, a5⟩ : Pk)]).length = n + 1) := ⟨eg, el⟩
  clear h B0 hB hW ev eg el hn hn1
  go_enter Try.func49, Try.ntmps49
  go_wp2_with fail
  rw [HE.out.1, HE.out.2]
  refine (atP_yes r g N f _ (xs ++ [(⟨a0, a1, a2, a3, a4, a5⟩ : Pk)]) xs.length (n : Int) W HH.out.1 (by rw [HN.out]) (by rw [HG.out.2]; have := HN.out; omega)).mono ?_
  rintro e w1 ⟨rfl, hb⟩
  rw [HG.out.1, show (⟨a0, a1, a2, a3, a4, a5⟩ : Pk).val = .agg #[.int .i64 a0, .int .i64 a1, .int .i64 a2, .int .i64 a3, .int .i64 a4, .int .i64 a5] from rfl]
  have hv : w1.heap[v]? = some (.cells #[.int .i64 0, .int .i64 0, .int .i64 0, .int .i64 0, .int .i64 0, .int .i64 0] 49) := (hb.block v HH.out.2.2.2.1).trans HH.out.2.2.2.2.1
  have v0 : w1.cell? ⟨v, 0, none⟩ = some (.int .i64 0) := by simp [World.cell?, hv]
  have z0 : w1.frozen? ⟨v, 0, none⟩ = false := by simp [World.frozen?, hv]
  have v1 : w1.cell? ⟨v, 1, none⟩ = some (.int .i64 0) := by simp [World.cell?, hv]
  have z1 : w1.frozen? ⟨v, 1, none⟩ = false := by simp [World.frozen?, hv]
  have v2 : w1.cell? ⟨v, 2, none⟩ = some (.int .i64 0) := by simp [World.cell?, hv]
  have z2 : w1.frozen? ⟨v, 2, none⟩ = false := by simp [World.frozen?, hv]
  have v3 : w1.cell? ⟨v, 3, none⟩ = some (.int .i64 0) := by simp [World.cell?, hv]
  have z3 : w1.frozen? ⟨v, 3, none⟩ = false := by simp [World.frozen?, hv]
  have v4 : w1.cell? ⟨v, 4, none⟩ = some (.int .i64 0) := by simp [World.cell?, hv]
  have z4 : w1.frozen? ⟨v, 4, none⟩ = false := by simp [World.frozen?, hv]
  have v5 : w1.cell? ⟨v, 5, none⟩ = some (.int .i64 0) := by simp [World.cell?, hv]
  have z5 : w1.frozen? ⟨v, 5, none⟩ = false := by simp [World.frozen?, hv]
  obtain ⟨W2, hW2⟩ : ∃ W2, W2 = ((((((((((((w1).setCell ⟨v, 0, none⟩ (.int .i64 a0))).setCell ⟨v, 1, none⟩ (.int .i64 a1))).setCell ⟨v, 2, none⟩ (.int .i64 a2))).setCell ⟨v, 3, none⟩ (.int .i64 a3))).setCell ⟨v, 4, none⟩ (.int .i64 a4))).setCell ⟨v, 5, none⟩ (.int .i64 a5)) := ⟨_, rfl⟩
  have HX : Hid (((((((((((((w1).setCell ⟨v, 0, none⟩ (.int .i64 a0))).setCell ⟨v, 1, none⟩ (.int .i64 a1))).setCell ⟨v, 2, none⟩ (.int .i64 a2))).setCell ⟨v, 3, none⟩ (.int .i64 a3))).setCell ⟨v, 4, none⟩ (.int .i64 a4))).setCell ⟨v, 5, none⟩ (.int .i64 a5)) = W2) := hW2.symm
  have D0 : Below w.heap.size w1 W2 := by
    rw [hW2]
    exact ((((((Below.refl _ _).setCell (by rw [HE.out.2]; exact Nat.le_refl v) _).setCell (by rw [HE.out.2]; exact Nat.le_refl v) _).setCell (by rw [HE.out.2]; exact Nat.le_refl v) _).setCell (by rw [HE.out.2]; exact Nat.le_refl v) _).setCell (by rw [HE.out.2]; exact Nat.le_refl v) _).setCell (by rw [HE.out.2]; exact Nat.le_refl v) _
  have D1 : Below w.heap.size w W2 := (HH.out.2.1.trans (hb.mono (by have := HH.out.2.1.size; omega))).trans D0
  have R1 : RP w1 r g N f (xs ++ [(⟨a0, a1, a2, a3, a4, a5⟩ : Pk)]).length (xs ++ [(⟨a0, a1, a2, a3, a4, a5⟩ : Pk)]) := HH.out.1.mono hb
  have R2 : RP W2 r g N f (xs ++ [(⟨a0, a1, a2, a3, a4, a5⟩ : Pk)]).length (xs ++ [(⟨a0, a1, a2, a3, a4, a5⟩ : Pk)]) := R1.of_blocks (D0.block _ (by have := HH.out; omega)) (D0.block _ (by have := HH.out; omega))
  have q0 : W2.cell? ⟨v, 0, none⟩ = some (.int .i64 a0) := by rw [hW2]; simp [go_sem, v0]
  have q1 : W2.cell? ⟨v, 1, none⟩ = some (.int .i64 a1) := by rw [hW2]; simp [go_sem, v1]
  have q2 : W2.cell? ⟨v, 2, none⟩ = some (.int .i64 a2) := by rw [hW2]; simp [go_sem, v2]
  have q3 : W2.cell? ⟨v, 3, none⟩ = some (.int .i64 a3) := by rw [hW2]; simp [go_sem, v3]
  have q4 : W2.cell? ⟨v, 4, none⟩ = some (.int .i64 a4) := by rw [hW2]; simp [go_sem, v4]
  have q5 : W2.cell? ⟨v, 5, none⟩ = some (.int .i64 a5) := by rw [hW2]; simp [go_sem, v5]
  have vW2 : v < W2.heap.size := World.block_lt_of_cell? _ _ q0
  have r2 := R1.c2
  rw [HG.out.2] at r2
  have n1 : ¬ v = r := by have := HH.out; omega
  have n2 : ¬ r = v := by have := HH.out; omega
  have H2 : Hid (RP W2 r g N f (xs ++ [(⟨a0, a1, a2, a3, a4, a5⟩ : Pk)]).length (xs ++ [(⟨a0, a1, a2, a3, a4, a5⟩ : Pk)]) ∧ Below w.heap.size w W2 ∧ v < W2.heap.size) := ⟨R2, D1, vW2⟩
  have QQ : Hid (W2.cell? ⟨v, 0, none⟩ = some (.int .i64 a0) ∧ W2.cell? ⟨v, 1, none⟩ = some (.int .i64 a1) ∧ W2.cell? ⟨v, 2, none⟩ = some (.int .i64 a2) ∧ W2.cell? ⟨v, 3, none⟩ = some (.int .i64 a3) ∧ W2.cell? ⟨v, 4, none⟩ = some (.int .i64 a4) ∧ W2.cell? ⟨v, 5, none⟩ = some (.int .i64 a5)) := ⟨q0, q1, q2, q3, q4, q5⟩
  have OO : Hid (W2.frozen? ⟨v, 0, none⟩ = false ∧ W2.frozen? ⟨v, 1, none⟩ = false ∧ W2.frozen? ⟨v, 2, none⟩ = false ∧ W2.frozen? ⟨v, 3, none⟩ = false ∧ W2.frozen? ⟨v, 4, none⟩ = false ∧ W2.frozen? ⟨v, 5, none⟩ = false) := by
    rw [hW2]
    exact ⟨by simp [go_sem, z0], by simp [go_sem, z1], by simp [go_sem, z2], by simp [go_sem, z3], by simp [go_sem, z4], by simp [go_sem, z5]⟩
  have w1' : ((n + 1 : Nat) : Int) - 1 = (n : Int) := by omega
  have w2' : IntKind.i64.wrap (n : Int) = (n : Int) := by rw [IntKind.wrap_i64]; omega
  have hdd : decide ((n : Int) < 0) = false := decide_eq_false (by omega)
  clear hb hv hW2 D0 D1 R1 R2 vW2 q0 q1 q2 q3 q4 q5
  go_wp2_with fail
  rw [HX.out]
  refine (closeBP_last r g N f n ⟨a0, a1, a2, a3, a4, a5⟩ xs W2 H2.out.1 HN.out).mono ?_
  rintro e w2 ⟨rfl, h2, h3⟩
  have x2 := h2.c2
  rw [HG.out.2] at x2
  have z2' := h2.fz 2
  have h2l := h2.lim
  have h2c : xs.length ≤ N := h2.len
  have HF : Hid (RP (w2.setCell ⟨r, 2, none⟩ (.int .i64 (n : Int))) r g N f xs.length xs ∧ Chg w (w2.setCell ⟨r, 2, none⟩ (.int .i64 (n : Int))) r g ∧ v < w2.heap.size ∧ w2.heap[v]? = W2.heap[v]?) := by
    have t1 := h2.setCount (c' := n) (by have := HN.out; omega)
    rw [HN.out] at t1 ⊢
    exact ⟨t1, ((Chg.of_below H2.out.2.1 r g).trans h3 (.inl rfl)).setR 2 _, Nat.lt_of_lt_of_le H2.out.2.2 h3.size, h3.block v H2.out.2.2 (by have := HH.out; omega) (by have := HH.out; omega)⟩
  clear h2 h3
  go_wp2_with fail
  refine (narrowP_any r g N _ xs _ HF.out.1).mono ?_
  rintro e w3 ⟨rfl, g', N', f', h4, h5, h6⟩
  have hv3 : w3.heap[v]? = W2.heap[v]? := (h5.block v (by simp; exact HF.out.2.2.1) (by have := HH.out; omega) (by have := HH.out; omega)).trans ((Below.heap_setCell _ _ _ v (by show v ≠ r; have := HH.out; omega)).trans HF.out.2.2.2)
  have q0 : w3.cell? ⟨v, 0, none⟩ = some (.int .i64 a0) := (World.cell?_of_block (a := ⟨v, 0, none⟩) hv3).trans QQ.out.1
  have o0 : w3.frozen? ⟨v, 0, none⟩ = false := (World.frozen?_of_block (a := ⟨v, 0, none⟩) hv3).trans OO.out.1
  have q1 : w3.cell? ⟨v, 1, none⟩ = some (.int .i64 a1) := (World.cell?_of_block (a := ⟨v, 1, none⟩) hv3).trans QQ.out.2.1
  have o1 : w3.frozen? ⟨v, 1, none⟩ = false := (World.frozen?_of_block (a := ⟨v, 1, none⟩) hv3).trans OO.out.2.1
  have q2 : w3.cell? ⟨v, 2, none⟩ = some (.int .i64 a2) := (World.cell?_of_block (a := ⟨v, 2, none⟩) hv3).trans QQ.out.2.2.1
  have o2 : w3.frozen? ⟨v, 2, none⟩ = false := (World.frozen?_of_block (a := ⟨v, 2, none⟩) hv3).trans OO.out.2.2.1
  have q3 : w3.cell? ⟨v, 3, none⟩ = some (.int .i64 a3) := (World.cell?_of_block (a := ⟨v, 3, none⟩) hv3).trans QQ.out.2.2.2.1
  have o3 : w3.frozen? ⟨v, 3, none⟩ = false := (World.frozen?_of_block (a := ⟨v, 3, none⟩) hv3).trans OO.out.2.2.2.1
  have q4 : w3.cell? ⟨v, 4, none⟩ = some (.int .i64 a4) := (World.cell?_of_block (a := ⟨v, 4, none⟩) hv3).trans QQ.out.2.2.2.2.1
  have o4 : w3.frozen? ⟨v, 4, none⟩ = false := (World.frozen?_of_block (a := ⟨v, 4, none⟩) hv3).trans OO.out.2.2.2.2.1
  have q5 : w3.cell? ⟨v, 5, none⟩ = some (.int .i64 a5) := (World.cell?_of_block (a := ⟨v, 5, none⟩) hv3).trans QQ.out.2.2.2.2.2
  have o5 : w3.frozen? ⟨v, 5, none⟩ = false := (World.frozen?_of_block (a := ⟨v, 5, none⟩) hv3).trans OO.out.2.2.2.2.2
  have HR : Hid (RingsP w r g xs (((((((((((((w3).setCell ⟨v, 0, none⟩ (.int .i64 a0))).setCell ⟨v, 1, none⟩ (.int .i64 a1))).setCell ⟨v, 2, none⟩ (.int .i64 a2))).setCell ⟨v, 3, none⟩ (.int .i64 a3))).setCell ⟨v, 4, none⟩ (.int .i64 a4))).setCell ⟨v, 5, none⟩ (.int .i64 a5)))) := by
    have hw : w.heap.size ≤ v := by rw [HE.out.2]; exact Nat.le_refl v
    have hg' : g' ≠ v := by
      have := HH.out
      have h7 := HF.out.2.2.1
      rcases h6 with e | e | e
      · omega
      · omega
      simp at e; omega
    have k0 : Chg w w3 r g := HF.out.2.1.trans h5 (.inl rfl)
    refine ⟨g', N', f', h4.of_blocks ?_ ?_, ?_, ?_⟩
    · have hrv : r ≠ v := by have := HH.out; omega
      iterate 6 rw [setV_ne hrv]
    · iterate 6 rw [setV_ne hg']
    · exact ((((((k0.setV hw _ _).setV hw _ _).setV hw _ _).setV hw _ _).setV hw _ _).setV hw _ _)
    rcases h6 with e | e | e
    · exact .inl e
    · exact .inr (.inl e)
    exact .inr (.inr (by have := k0.size; have h8 := HF.out.2.1.size; simp at e h8; omega))
  clear h4 h5 h6 hv3
  go_wp2_with fail
  exact bodyPost_ret (v := .tuple #[.agg #[.int .i64 a0, .int .i64 a1, .int .i64 a2, .int .i64 a3, .int .i64 a4, .int .i64 a5], .bool true]) (by simp [results, Try.results49, go_sem, *]) rfl ⟨rfl, HR.out⟩
end Go.Proofs.Ytcndbmccediknaa
