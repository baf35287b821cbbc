/- One digit of a quotient of words, guessed by three words and two: the plain mathematics. -/
import Derived.Test.YtekigmkepfhdhaaDivW
namespace Go.Proofs.Ytekigmkepfhdhaa
open Go.RowKit
set_option maxRecDepth 100000
set_option linter.unusedVariables false
/-- q is not below the digit of three words by two, and r is what q leaves of the upper two by the upper one. -/
def Dig2 (A u Y y1 q r : Nat) : Prop := q * y1 + r = A ∧ (A * 18446744073709551616 + u) / Y ≤ q
theorem dig2_id (y1 y0 q r u : Nat) : q * (y1 * 18446744073709551616 + y0) + (r * 18446744073709551616 + u) = (q * y1 + r) * 18446744073709551616 + u + q * y0 := by
  rw [Nat.mul_add, Nat.add_mul, Nat.mul_assoc q]
  omega
theorem dig2_start {A u Y y1 y0 : Nat} (hY : Y = y1 * 18446744073709551616 + y0) (hu : u < 18446744073709551616) (hy1 : 0 < y1) : Dig2 A u Y y1 (A / y1) (A % y1) := by
  refine ⟨by rw [Nat.mul_comm]; exact Nat.div_add_mod A y1, ?_⟩
  have h1 : (A * 18446744073709551616 + u) / Y ≤ (A * 18446744073709551616 + u) / (y1 * 18446744073709551616) := Nat.div_le_div_left (by omega) (by omega)
  have h2 : (A * 18446744073709551616 + u) / (y1 * 18446744073709551616) = A / y1 := by
    rw [Nat.mul_comm y1, ← Nat.div_div_eq_div_mul, Nat.mul_comm A, Nat.mul_add_div (by omega), Nat.div_eq_of_lt hu, Nat.add_zero]
  rw [h2] at h1
  exact h1
theorem Dig2.step {A u Y y1 y0 q r : Nat} (h : Dig2 A u Y y1 q r) (hY : Y = y1 * 18446744073709551616 + y0) (hY0 : 0 < Y) (hc : r * 18446744073709551616 + u < q * y0) : 0 < q ∧ Dig2 A u Y y1 (q - 1) (r + y1) := by
  obtain ⟨h1, h2⟩ := h
  have hlt : (A * 18446744073709551616 + u) / Y < q := by
    rw [Nat.div_lt_iff_lt_mul hY0]
    have := dig2_id y1 y0 q r u
    rw [h1, ← hY] at this
    exact lin_lt this hc
  refine ⟨Nat.lt_of_le_of_lt (Nat.zero_le _) hlt, ?_, Nat.le_sub_one_of_lt hlt⟩
  have hq0 : 0 < q := Nat.lt_of_le_of_lt (Nat.zero_le _) hlt
  clear hlt hc h2
  obtain ⟨t, rfl⟩ : ∃ t, q = t + 1 := ⟨q - 1, by omega⟩
  rw [Nat.add_mul] at h1
  simp only [Nat.add_sub_cancel]
  omega
theorem Dig2.done {A u Y y1 y0 q r : Nat} (h : Dig2 A u Y y1 q r) (hY : Y = y1 * 18446744073709551616 + y0) (hY0 : 0 < Y) (hc : q * y0 ≤ r * 18446744073709551616 + u) : q = (A * 18446744073709551616 + u) / Y := by
  obtain ⟨h1, h2⟩ := h
  refine Nat.le_antisymm ?_ h2
  rw [Nat.le_div_iff_mul_le hY0]
  have := dig2_id y1 y0 q r u
  rw [h1, ← hY] at this
  exact lin_le this hc
theorem Dig2.broke {A u Y y1 y0 q r : Nat} (h : Dig2 A u Y y1 q r) (hY : Y = y1 * 18446744073709551616 + y0) (hY0 : 0 < Y) (hq : q < 18446744073709551616) (h0 : y0 < 18446744073709551616) (hr : 18446744073709551616 ≤ r) : q = (A * 18446744073709551616 + u) / Y := by
  refine h.done hY hY0 ?_
  have h4 : q * y0 ≤ 18446744073709551616 * 18446744073709551616 := Nat.mul_le_mul (Nat.le_of_lt hq) (Nat.le_of_lt h0)
  have h5 : 18446744073709551616 * 18446744073709551616 ≤ r * 18446744073709551616 := Nat.mul_le_mul_right _ hr
  exact Nat.le_trans h4 (Nat.le_trans h5 (Nat.le_add_right _ _))
theorem mul_pred {q y0 : Nat} (hq : 0 < q) (hy : y0 < 18446744073709551616) : subLo (mulLo q y0) y0 0 = mulLo (q - 1) y0 ∧ subHi (mulLo q y0) y0 0 + mulHi (q - 1) y0 = mulHi q y0 := by
  obtain ⟨t, rfl⟩ : ∃ t, q = t + 1 := ⟨q - 1, by omega⟩
  simp only [Nat.add_sub_cancel]
  have h1 := mul_eq (t + 1) y0
  have h2 := mul_eq t y0
  have h3 := sub_eq (mulLo (t + 1) y0) y0 0 (mulLo_lt _ _) hy (by omega)
  have h4 := mulLo_lt t y0
  have h5 := mulLo_lt (t + 1) y0
  have h6 := subLo_lt (mulLo (t + 1) y0) y0 0
  rw [Nat.add_mul, Nat.one_mul] at h1
  generalize mulLo (t + 1) y0 = a at *
  generalize mulHi (t + 1) y0 = b at *
  generalize mulLo t y0 = c at *
  generalize mulHi t y0 = d at *
  generalize subLo a y0 0 = e at *
  generalize subHi a y0 0 = f at *
  generalize t * y0 = g at *
  omega
/-- The three words by two, against the whole numbers. -/
theorem guess_ge {R Y T low ylow p q : Nat} {R3 : Nat} (hR : R = R3 * p + low) (hl : low < p) (hY : Y = T * p + ylow) (hT : 0 < T) (hq : q = R3 / T) : R / Y ≤ q := by
  rw [hq, Nat.le_div_iff_mul_le hT]
  have h1 : R / Y * Y ≤ R := Nat.div_mul_le_self R Y
  have h2 : R / Y * (T * p) ≤ R / Y * Y := Nat.mul_le_mul_left _ (by omega)
  have h3 : R / Y * T * p < (R3 + 1) * p := by rw [Nat.mul_assoc, Nat.add_mul]; omega
  have := Nat.lt_of_mul_lt_mul_right h3
  omega
theorem guess_le {R Y T low ylow p q : Nat} {R3 : Nat} (hR : R = R3 * p + low) (hY : Y = T * p + ylow) (hyl : ylow < p) (hT : 0 < T) (hY0 : 0 < Y) (hq : q = R3 / T) (hqT : q ≤ T) : q ≤ R / Y + 1 := by
  rcases Nat.eq_zero_or_pos q with h0 | h0
  · rw [h0]; exact Nat.zero_le _
  obtain ⟨t, rfl⟩ : ∃ t, q = t + 1 := ⟨q - 1, by omega⟩
  have h1 : t ≤ R / Y := by
    rw [Nat.le_div_iff_mul_le hY0]
    have h2 : (t + 1) * T ≤ R3 := by rw [hq]; exact Nat.div_mul_le_self R3 T
    have h3 : t * Y ≤ t * ((T + 1) * p) := Nat.mul_le_mul_left _ (by rw [hY, Nat.add_mul]; omega)
    have h4 : t * (T + 1) ≤ R3 := by rw [Nat.add_mul] at h2; rw [Nat.mul_add]; omega
    have h5 : t * ((T + 1) * p) ≤ R3 * p := by rw [← Nat.mul_assoc]; exact Nat.mul_le_mul_right _ h4
    omega
  exact Nat.succ_le_succ h1
end Go.Proofs.Ytekigmkepfhdhaa
