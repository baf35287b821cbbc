/- One digit of a quotient, guessed and mended: the plain mathematics of Div64. -/
import Derived.Test.YtekigmkepfhdhaaMul
namespace Go.Proofs.Ytekigmkepfhdhaa
open Go.RowKit
set_option maxRecDepth 100000
/-- q is not below the digit, and r is what q leaves of A by y1. -/
def Dig (A u Y y1 q r : Nat) : Prop := q * y1 + r = A ∧ (A * 4294967296 + u) / Y ≤ q
theorem dig_lt {A u Y : Nat} (hA : A < Y) (hu : u < 4294967296) : (A * 4294967296 + u) / Y < 4294967296 := by
  rw [Nat.div_lt_iff_lt_mul (by omega)]
  have h : (A + 1) * 4294967296 ≤ Y * 4294967296 := Nat.mul_le_mul_right _ hA
  rw [Nat.mul_comm 4294967296 Y]
  omega
theorem dig_id (y1 y0 q r u : Nat) : q * (y1 * 4294967296 + y0) + (r * 4294967296 + u) = (q * y1 + r) * 4294967296 + u + q * y0 := by
  rw [Nat.mul_add, Nat.add_mul, Nat.mul_assoc q]
  omega
theorem dig_start {A u Y y1 y0 : Nat} (hY : Y = y1 * 4294967296 + y0) (hu : u < 4294967296) (hy1 : 0 < y1) : Dig A u Y y1 (A / y1) (A % y1) := by
  refine ⟨by rw [Nat.mul_comm]; exact Nat.div_add_mod A y1, ?_⟩
  have h1 : (A * 4294967296 + u) / Y ≤ (A * 4294967296 + u) / (y1 * 4294967296) := Nat.div_le_div_left (by omega) (by omega)
  have h2 : (A * 4294967296 + u) / (y1 * 4294967296) = A / y1 := by
    rw [Nat.mul_comm y1, ← Nat.div_div_eq_div_mul, Nat.mul_comm A, Nat.mul_add_div (by omega), Nat.div_eq_of_lt hu, Nat.add_zero]
  omega
theorem lin_lt {a b c d : Nat} (h : a + b = c + d) (hc : b < d) : c < a := by omega
theorem lin_le {a b c d : Nat} (h : a + b = c + d) (hc : d ≤ b) : a ≤ c := by omega
theorem Dig.step {A u Y y1 y0 q r : Nat} (h : Dig A u Y y1 q r) (hY : Y = y1 * 4294967296 + y0) (hA : A < Y) (hu : u < 4294967296) (hc : 4294967296 ≤ q ∨ r * 4294967296 + u < q * y0) : 0 < q ∧ Dig A u Y y1 (q - 1) (r + y1) := by
  obtain ⟨h1, h2⟩ := h
  have hlt : (A * 4294967296 + u) / Y < q := by
    rcases hc with hc | hc
    · have := dig_lt hA hu
      omega
    · rw [Nat.div_lt_iff_lt_mul (by omega)]
      have := dig_id y1 y0 q r u
      rw [h1, ← hY] at this
      exact lin_lt this hc
  refine ⟨Nat.lt_of_le_of_lt (Nat.zero_le _) hlt, ?_, Nat.le_sub_one_of_lt hlt⟩
  have hq0 : 0 < q := Nat.lt_of_le_of_lt (Nat.zero_le _) hlt
  clear hlt hc h2
  obtain ⟨t, rfl⟩ : ∃ t, q = t + 1 := ⟨q - 1, by omega⟩
  rw [Nat.add_mul] at h1
  simp only [Nat.add_sub_cancel]
  omega
theorem Dig.done {A u Y y1 y0 q r : Nat} (h : Dig A u Y y1 q r) (hY : Y = y1 * 4294967296 + y0) (hA : A < Y) (hc : q * y0 ≤ r * 4294967296 + u) : q = (A * 4294967296 + u) / Y := by
  obtain ⟨h1, h2⟩ := h
  refine Nat.le_antisymm ?_ h2
  rw [Nat.le_div_iff_mul_le (by omega)]
  have := dig_id y1 y0 q r u
  rw [h1, ← hY] at this
  exact lin_le this hc
theorem Dig.broke {A u Y y1 y0 q r : Nat} (h : Dig A u Y y1 q r) (hY : Y = y1 * 4294967296 + y0) (hA : A < Y) (h0 : y0 < 4294967296) (hr : 4294967296 ≤ r) : q = (A * 4294967296 + u) / Y := by
  refine h.done hY hA ?_
  have hq : q < 4294967296 := by
    rcases Nat.lt_or_ge q 4294967296 with hq | hq
    · exact hq
    · have h3 : 4294967296 * y1 ≤ q * y1 := Nat.mul_le_mul_right _ hq
      have := h.1
      omega
  have h4 : q * y0 ≤ 4294967296 * 4294967296 := Nat.mul_le_mul (by omega) (by omega)
  have h5 : 4294967296 * 4294967296 ≤ r * 4294967296 := Nat.mul_le_mul_right _ hr
  omega
/-- What is left of a division, reckoned round the words' end. -/
theorem rest_wrap {A u Y q : Nat} (hq : q = (A * 4294967296 + u) / Y) (hY : Y < 18446744073709551616) (hA : A < Y) :
    IntKind.u64.wrap (IntKind.u64.wrap (IntKind.u64.wrap ((A : Int) * 4294967296) + (u : Int)) - IntKind.u64.wrap ((q : Int) * (Y : Int))) = (((A * 4294967296 + u) % Y : Nat) : Int) := by
  have h1 := Nat.div_add_mod (A * 4294967296 + u) Y
  rw [← hq, Nat.mul_comm] at h1
  have h2 : (A * 4294967296 + u) % Y < Y := Nat.mod_lt _ (by omega)
  have e : (q : Int) * (Y : Int) = ((q * Y : Nat) : Int) := (Int.natCast_mul ..).symm
  rw [e]
  simp only [IntKind.wrap_u64]
  omega
end Go.Proofs.Ytekigmkepfhdhaa
