/- Contracts of the program's functions, part 7: own work, joined in build order. -/
import Derived.Test.YtmghkkaoblkmpaaJ6
namespace Go.Proofs.Ytmghkkaoblkmpaa
open Go.RowKit
set_option linter.unusedVariables false
theorem getD_far {α : Type} (xs : List α) {j : Nat} (z : α) (h : xs.length ≤ j) : xs.getD j z = z := by simp [List.getD_eq_getElem?_getD, h]
theorem emod_shift (n a M : Int) : (n % M + a) % M = (n + a) % M := by
  rw [Int.add_emod, Int.emod_emod, ← Int.add_emod]
section
variable {α : Type} {enc : α → Value} {z : α} {T t : TypeId} {w : World} {r g N f c : Nat} {xs : List α}
theorem mod_back {N f j : Nat} (hf : f < N) (hj : j < N) : (j + N - (f + N - 1) % N) % N = ((j + N - f) % N + 1) % N := by
  rw [Nat.mod_add_mod]
  rcases Nat.eq_zero_or_pos f with e | e
  · subst e
    rw [Nat.zero_add, Nat.mod_eq_of_lt (show N - 1 < N by omega), show j + N - (N - 1) = j + 1 by omega, Nat.sub_zero, show j + N + 1 = j + 1 + N by omega, Nat.add_mod_right]
  · rw [show f + N - 1 = f - 1 + N by omega, Nat.add_mod_right, Nat.mod_eq_of_lt (show f - 1 < N by omega), show j + N - (f - 1) = j + N - f + 1 by omega]
theorem mod_on {N f j : Nat} (hf : f < N) (hj : j < N) : (j + N - (f + 1) % N) % N = ((j + N - f) % N + (N - 1)) % N := by
  rw [Nat.mod_add_mod]
  rcases Nat.lt_or_ge (f + 1) N with e | e
  · rw [Nat.mod_eq_of_lt e, show j + N - f + (N - 1) = j + N - (f + 1) + N by omega, Nat.add_mod_right]
  · obtain rfl : N = f + 1 := by omega
    rw [Nat.mod_self, Nat.sub_zero, show j + (f + 1) - f + (f + 1 - 1) = j + (f + 1) by omega]
theorem Rw.cons (h : Rw enc z T t w r g N f xs.length xs) (hx : xs.length < N) (v : α) {k : Nat} (hk : k = (f + N - 1) % N) :
    Rw enc z T t (((w.setCell ⟨r, 1, none⟩ (.int .i64 (k : Int))).setCell ⟨g, k, none⟩ (enc v)).setCell ⟨r, 2, none⟩ (.int .i64 ((xs.length : Int) + 1))) r g N k (v :: xs).length (v :: xs) := by
  have hN : 0 < N := by omega
  have hf := h.fl hN
  have hkN : k < N := by rw [hk]; exact Nat.mod_lt _ hN
  have h1 := h.setFirst hN hkN (ys := z :: xs) (by simp; omega) (fun j hj => by
    rw [hk, mod_back hf hj]
    obtain ⟨i, ei⟩ : ∃ i, i = (j + N - f) % N := ⟨_, rfl⟩
    have hi : i < N := by rw [ei]; exact Nat.mod_lt _ hN
    rw [← ei]
    rcases Nat.lt_or_ge (i + 1) N with e | e
    · rw [Nat.mod_eq_of_lt e]
      rfl
    · rw [show i + 1 = N by omega, Nat.mod_self, List.getD_cons_zero, getD_far _ _ (by omega)])
  have h2 := h1.set (i := 0) hN v (ys := v :: xs) (by simp; omega) (fun j _ => by
    rcases j with _ | j
    · rfl
    · rfl)
  rw [Nat.add_zero, Nat.mod_eq_of_lt hkN] at h2
  have h3 := h2.setCount (c' := (v :: xs).length) (by simp; omega)
  rw [show (((v :: xs).length : Nat) : Int) = (xs.length : Int) + 1 by simp] at h3
  exact h3
theorem getD_erase (xs : List α) (i j : Nat) (z : α) : (xs.eraseIdx i).getD j z = if j < i then xs.getD j z else xs.getD (j + 1) z := by
  simp only [List.getD_eq_getElem?_getD, List.getElem?_eraseIdx]
  split <;> rfl
theorem Rw.closedF {ys : List α} {i : Nat} (h : Rw enc z T t w r g N f c ys) (hx : 0 < xs.length) (hl : xs.length ≤ N) (hi : i < xs.length) (hy : ∀ j, ys.getD j z = if j = 0 then z else if j ≤ i then xs.getD (j - 1) z else xs.getD j z) :
    Rw enc z T t (w.setCell ⟨r, 1, none⟩ (.int .i64 (((f + 1) % N : Nat) : Int))) r g N ((f + 1) % N) c (xs.eraseIdx i) := by
  have hN : 0 < N := by omega
  have hf := h.fl hN
  have hle : (xs.eraseIdx i).length + 1 = xs.length := by rw [List.length_eraseIdx, if_pos hi]; omega
  refine h.setFirst hN (Nat.mod_lt _ hN) (by omega) fun j hj => ?_
  rw [mod_on hf hj]
  obtain ⟨k, ek⟩ : ∃ k, k = (j + N - f) % N := ⟨_, rfl⟩
  have hk : k < N := by rw [ek]; exact Nat.mod_lt _ hN
  rw [← ek, hy k]
  rcases Nat.eq_zero_or_pos k with e | e
  · subst e
    rw [Nat.zero_add, Nat.mod_eq_of_lt (show N - 1 < N by omega), if_pos rfl, getD_far _ _ (by omega)]
  · rw [show k + (N - 1) = k - 1 + N by omega, Nat.add_mod_right, Nat.mod_eq_of_lt (show k - 1 < N by omega), if_neg (by omega), getD_erase]
    by_cases e2 : k ≤ i
    · rw [if_pos (by omega), if_pos e2]
    · rw [if_neg (by omega), if_neg e2, show k - 1 + 1 = k by omega]
end
/-- k things of the front go to the end. -/
def rl {α : Type} (k : Nat) (xs : List α) : List α := xs.drop k ++ xs.take k
/-- The list turned n times. -/
def rt {α : Type} (n : Int) (xs : List α) : List α := rl (n % (xs.length : Int)).toNat xs
section
variable {α : Type}
theorem rl_length (k : Nat) (xs : List α) : (rl k xs).length = xs.length := by
  unfold rl
  simp
  omega
theorem rt_length (n : Int) (xs : List α) : (rt n xs).length = xs.length := rl_length _ _
theorem rt_zero (xs : List α) : rt 0 xs = xs := by unfold rt rl; simp
theorem rt_mod (n m : Int) (xs : List α) (h : n % (xs.length : Int) = m % (xs.length : Int)) : rt n xs = rt m xs := by unfold rt; rw [h]
theorem rt_front (n : Int) (y : α) (ys : List α) : rt n (y :: ys) = rt (n - 1) (ys ++ [y]) := by
  unfold rt
  have e1 : ((y :: ys).length : Int) = (ys.length : Int) + 1 := by simp
  have e2 : ((ys ++ [y]).length : Int) = (ys.length : Int) + 1 := by simp
  rw [e1, e2]
  obtain ⟨k, ek⟩ : ∃ k : Nat, n % ((ys.length : Int) + 1) = k := ⟨(n % ((ys.length : Int) + 1)).toNat, (Int.toNat_of_nonneg (Int.emod_nonneg _ (by omega))).symm⟩
  have hk : (k : Int) < (ys.length : Int) + 1 := by rw [← ek]; exact Int.emod_lt_of_pos _ (by omega)
  have e3 : (n - 1) % ((ys.length : Int) + 1) = ((k : Int) - 1) % ((ys.length : Int) + 1) := by rw [← ek, Int.sub_eq_add_neg, Int.sub_eq_add_neg, emod_shift]
  rw [e3, ek]
  rcases k with _ | k
  · rw [show (((0 : Nat) : Int) - 1) % ((ys.length : Int) + 1) = (ys.length : Int) by
      rw [show (((0 : Nat) : Int) - 1) = (ys.length : Int) + (-1) * ((ys.length : Int) + 1) by omega, Int.add_mul_emod_self_right, Int.emod_eq_of_lt (by omega) (by omega)]]
    unfold rl
    simp
  · rw [show ((((k + 1 : Nat) : Int)) - 1) = (k : Int) by omega, Int.emod_eq_of_lt (by omega) (by omega)]
    unfold rl
    simp only [Int.toNat_natCast, List.drop_succ_cons, List.take_succ_cons]
    rw [List.drop_append_of_le_length (by omega), List.take_append_of_le_length (by omega)]
    simp
theorem rt_back (n : Int) (y : α) (ys : List α) : rt n (ys ++ [y]) = rt (n + 1) (y :: ys) := by
  rw [rt_front]
  congr 1
  omega
theorem rt_nil (n : Int) : rt n ([] : List α) = [] := by unfold rt rl; simp
theorem rt_tmod (n q : Int) (xs : List α) (h : n.tmod (xs.length : Int) = q) : rt q xs = rt n xs := rt_mod _ _ _ (by rw [← h, Int.tmod_def, Int.sub_eq_add_neg, ← Int.mul_neg, Int.add_mul_emod_self_left])
theorem rt_add (n : Int) (xs : List α) : rt (n + (xs.length : Int)) xs = rt n xs := rt_mod _ _ _ (by rw [Int.add_emod_right])
theorem rt_sub (n : Int) (xs : List α) : rt (n - (xs.length : Int)) xs = rt n xs := rt_mod _ _ _ (by rw [Int.sub_emod_right])
theorem rt_rt (n m : Int) (xs : List α) : rt n (rt m xs) = rt (n + m) xs := by
  obtain ⟨k, hk⟩ : ∃ k : Nat, m % (xs.length : Int) = k ∨ xs = [] := by
    rcases xs with _ | ⟨x, xs⟩
    · exact ⟨0, .inr rfl⟩
    · exact ⟨(m % (((x :: xs).length : Nat) : Int)).toNat, .inl (Int.toNat_of_nonneg (Int.emod_nonneg _ (by simp; omega))).symm⟩
  rcases hk with hk | rfl
  · have e1 : rt m xs = rt (k : Int) xs := rt_mod _ _ _ (by rw [← hk, Int.emod_emod])
    have e2 : rt (n + m) xs = rt (n + k) xs := rt_mod _ _ _ (by rw [← hk, Int.add_comm n (m % _), emod_shift, Int.add_comm])
    rw [e1, e2]
    clear e1 e2 hk
    induction k generalizing xs with
    | zero => simp [rt_zero]
    | succ k ih =>
      rcases xs with _ | ⟨x, xs⟩
      · simp [rt, rl]
      · rw [rt_front ((k + 1 : Nat) : Int), show (((k + 1 : Nat) : Int)) - 1 = (k : Int) by omega, ih, rt_front (n + _)]
        congr 1
        omega
  · simp [rt, rl]
end
end Go.Proofs.Ytmghkkaoblkmpaa
