/- Decimal digits: the plain mathematics. -/
import Derived.Test.YtekigmkepfhdhaaPlainT
namespace Go.Proofs.Ytekigmkepfhdhaa
open Go.RowKit
set_option linter.unusedVariables false
/-- The powers that a long number is halved by. -/
def pw (i : Nat) : Nat := 10 ^ (19 * 2 ^ i)
theorem pw_zero : pw 0 = 10000000000000000000 := by decide +kernel
theorem pw_succ (i : Nat) : pw (i + 1) = pw i * pw i := by
  unfold pw
  rw [← Nat.pow_add, Nat.pow_succ]
  congr 1
  omega
theorem pw_le {i j : Nat} (h : i ≤ j) : pw i ≤ pw j := Nat.pow_le_pow_right (by decide) (Nat.mul_le_mul_left _ (Nat.pow_le_pow_right (by decide) h))
theorem pw_pos (i : Nat) : 0 < pw i := Nat.pow_pos (by decide)
theorem pw_two (i : Nat) : 2 ≤ pw i := Nat.le_trans (by rw [pw_zero]; omega) (pw_le (Nat.zero_le i))
theorem pw_six : pw 6 < P 99 := by decide +kernel
theorem pw_seven : P 126 ≤ pw 7 := by decide +kernel
theorem pw_eight : P 225 ≤ pw 8 := by decide +kernel
/-- A number whose text is spoken of here. -/
structure Tx (x : Nat) : Prop where
  lt : x < P 225
theorem Tx.le {x y : Nat} (h : Tx x) (hy : y ≤ x) : Tx y := ⟨Nat.lt_of_le_of_lt hy h.lt⟩
theorem Tx.small {x : Nat} (h : Tx x) : Small x := ⟨Nat.lt_trans h.lt (P_lt (show 225 < lim2 by decide))⟩
theorem Tx.fits {x : Nat} (h : Tx x) : Fits x := h.small.fits
theorem pw_cond {x i : Nat} (h : Tx x) (hi : pw i ≤ x) : pw i < P 99 ∨ (P 126 ≤ pw i ∧ x < P 225) := by
  rcases Nat.lt_or_ge i 7 with h1 | h1
  · exact .inl (Nat.lt_of_le_of_lt (pw_le (show i ≤ 6 by omega)) pw_six)
  · exact .inr ⟨Nat.le_trans pw_seven (pw_le h1), h.lt⟩
theorem pw_tx {i : Nat} (h : i ≤ 7) : Tx (pw i) := ⟨Nat.lt_of_le_of_lt (pw_le h) (by decide +kernel)⟩
theorem two_ten : (2 : Nat) ^ 100000 ≤ 10 ^ 30103 := by decide +kernel
theorem lt_ten_of {x L E B t : Nat} (hE : 0 < E) (hEB : 2 ^ E ≤ 10 ^ B) (h : x < 2 ^ L) (ht : L * B ≤ (t + 1) * E) : x < 10 ^ (t + 1) := by
  refine Nat.lt_of_lt_of_le h ?_
  refine (Nat.pow_le_pow_iff_left (n := E) (by omega)).1 ?_
  rw [← Nat.pow_mul, ← Nat.pow_mul, Nat.mul_comm L, Nat.pow_mul]
  refine Nat.le_trans (Nat.pow_le_pow_left hEB L) ?_
  rw [← Nat.pow_mul, Nat.mul_comm B]
  exact Nat.pow_le_pow_right (by omega) ht
theorem lt_ten {x L : Nat} (h : x < 2 ^ L) : x < 10 ^ (L * 30103 / 100000 + 1) := by
  refine lt_ten_of (E := 100000) (B := 30103) (by omega) two_ten h ?_
  have := Nat.div_add_mod (L * 30103) 100000
  have := Nat.mod_lt (L * 30103) (show 0 < 100000 by omega)
  omega
/-- A number's decimal digits are k. -/
def DecLen (x k : Nat) : Prop := 0 < k ∧ x < 10 ^ k ∧ (k = 1 ∨ 10 ^ (k - 1) ≤ x)
theorem DecLen.unique {x k l : Nat} (h : DecLen x k) (h' : DecLen x l) : k = l := by
  obtain ⟨h1, h2, h3⟩ := h
  obtain ⟨g1, g2, g3⟩ := h'
  rcases Nat.lt_trichotomy k l with hh | hh | hh
  · have := Nat.pow_le_pow_right (n := 10) (by omega) (show k ≤ l - 1 by omega)
    omega
  · exact hh
  · have := Nat.pow_le_pow_right (n := 10) (by omega) (show l ≤ k - 1 by omega)
    omega
theorem decAt_zero {x p : Nat} (h : x < 10 ^ (p + 1)) : decAt x p = 48 ↔ x < 10 ^ p := by
  unfold decAt
  rw [Nat.pow_succ] at h
  have h1 : x / 10 ^ p < 10 := Nat.div_lt_of_lt_mul (by omega)
  rw [Nat.mod_eq_of_lt h1]
  constructor
  · intro hh
    have h2 : x / 10 ^ p = 0 := by omega
    exact (Nat.div_eq_zero_iff_lt (Nat.pow_pos (by omega))).1 h2
  · intro hh
    rw [Nat.div_eq_of_lt hh]
end Go.Proofs.Ytekigmkepfhdhaa
