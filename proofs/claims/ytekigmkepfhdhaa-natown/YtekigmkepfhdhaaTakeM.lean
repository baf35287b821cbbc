/- takeDigit: the plain mathematics. -/
import Derived.Test.YtekigmkepfhdhaaGuess
namespace Go.Proofs.Ytekigmkepfhdhaa
open Go.RowKit
set_option maxRecDepth 100000
set_option linter.unusedVariables false
theorem V_top2 (Y : Nat → Nat) (k : Nat) : V Y (k + 2) = (Y (k + 1) * 18446744073709551616 + Y k) * P k + V Y k := by
  rw [V_succ, V_succ, P_succ, Nat.add_mul, Nat.mul_assoc (Y (k + 1)), Nat.mul_comm 18446744073709551616]
  omega
theorem ac4 (a b c d : Nat) : b + c + d + a = a + b + c + d := by omega
theorem V_top3 (R : Nat → Nat) (k : Nat) : V R (k + 3) = ((R (k + 2) * 18446744073709551616 + R (k + 1)) * 18446744073709551616 + R k) * P k + V R k := by
  rw [V_succ, V_top2, P_succ, P_succ]
  have e0 : P k * 18446744073709551616 * 18446744073709551616 = 18446744073709551616 * 18446744073709551616 * P k := by rw [Nat.mul_assoc, Nat.mul_comm]
  rw [e0, Nat.add_mul, Nat.add_mul, Nat.add_mul, Nat.add_mul, Nat.mul_assoc (R (k + 2)), Nat.mul_assoc (R (k + 2))]
  exact ac4 _ _ _ _
/-- The guess is the digit, or one more. -/
theorem guess_near {R Y : Nat → Nat} {k : Nat} (hR : Ok R (k + 3)) (hY : Ok Y (k + 2)) (htop : 9223372036854775808 ≤ Y (k + 1)) (hlt : V R (k + 3) < V Y (k + 2) * 18446744073709551616) :
    V R (k + 3) / V Y (k + 2) ≤ guess (R k) (R (k + 1)) (R (k + 2)) (Y k) (Y (k + 1)) ∧ guess (R k) (R (k + 1)) (R (k + 2)) (Y k) (Y (k + 1)) ≤ V R (k + 3) / V Y (k + 2) + 1 ∧ guess (R k) (R (k + 1)) (R (k + 2)) (Y k) (Y (k + 1)) < 18446744073709551616 := by
  have hT := V_top2 Y k
  have hR3 := V_top3 R k
  have hp := P_pos k
  have hyl := V_lt (hY.mono (show k ≤ k + 2 by omega))
  have hrl := V_lt (hR.mono (show k ≤ k + 3 by omega))
  have hYpos : 0 < V Y (k + 2) := by
    have : 1 * P k ≤ (Y (k + 1) * 18446744073709551616 + Y k) * P k := Nat.mul_le_mul_right _ (by omega)
    omega
  have hQ : V R (k + 3) / V Y (k + 2) < 18446744073709551616 := by
    rw [Nat.div_lt_iff_lt_mul hYpos, Nat.mul_comm]
    exact hlt
  unfold guess
  split
  · rename_i h
    refine ⟨by omega, ?_, by omega⟩
    have : 18446744073709551614 ≤ V R (k + 3) / V Y (k + 2) := by
      rw [Nat.le_div_iff_mul_le hYpos]
      have h1 : V Y (k + 2) ≤ (Y (k + 1) + 1) * P (k + 1) := by
        rw [V_succ, Nat.add_mul]
        have := V_lt (hY.mono (show k + 1 ≤ k + 2 by omega))
        omega
      have h2 : R (k + 2) * P (k + 2) ≤ V R (k + 3) := by rw [V_succ]; exact Nat.le_add_left _ _
      have h3 : Y (k + 1) * P (k + 2) ≤ R (k + 2) * P (k + 2) := Nat.mul_le_mul_right _ h
      have h4 : 18446744073709551614 * ((Y (k + 1) + 1) * P (k + 1)) ≤ Y (k + 1) * P (k + 2) := by
        rw [P_succ (k + 1), ← Nat.mul_assoc, Nat.mul_comm (P (k + 1)), ← Nat.mul_assoc]
        exact Nat.mul_le_mul_right _ (by omega)
      have h5 : 18446744073709551614 * V Y (k + 2) ≤ 18446744073709551614 * ((Y (k + 1) + 1) * P (k + 1)) := Nat.mul_le_mul_left _ h1
      exact Nat.le_trans h5 (Nat.le_trans h4 (Nat.le_trans h3 h2))
    omega
  · rename_i h
    have hT0 : 0 < Y (k + 1) * 18446744073709551616 + Y k := by omega
    have hr1 := hR (k + 1) (by omega)
    have hr0 := hR k (by omega)
    have hg : ((R (k + 2) * 18446744073709551616 + R (k + 1)) * 18446744073709551616 + R k) / (Y (k + 1) * 18446744073709551616 + Y k) < 18446744073709551616 := by
      rw [Nat.div_lt_iff_lt_mul hT0]
      omega
    exact ⟨guess_ge hR3 hrl hT hT0 rfl, guess_le hR3 hT hyl hT0 hYpos rfl (by omega), hg⟩
theorem take_exact {F Y d bor top p V' : Nat} (h1 : V' + Y * d = F + bor * p) (hV : V' < p) (hYp : Y ≤ p) (hY : 0 < Y) (hlo : (F + top * p) / Y ≤ d) (hle : bor ≤ top) : d = (F + top * p) / Y ∧ V' = (F + top * p) % Y := by
  obtain ⟨t, rfl⟩ : ∃ t, top = bor + t := ⟨top - bor, by omega⟩
  have e : F + (bor + t) * p = Y * d + (V' + t * p) := by rw [Nat.add_mul]; omega
  have hd : d = (F + (bor + t) * p) / Y := by
    refine Nat.le_antisymm ?_ hlo
    rw [Nat.le_div_iff_mul_le hY, e, Nat.mul_comm]
    exact Nat.le_add_right _ _
  have hm : V' + t * p < Y := by
    have h2 := Nat.div_add_mod (F + (bor + t) * p) Y
    rw [← hd, e] at h2
    have h3 : (Y * d + (V' + t * p)) % Y < Y := Nat.mod_lt _ hY
    omega
  have ht : t = 0 := by
    rcases Nat.eq_zero_or_pos t with h0 | h0
    · exact h0
    · have : 1 * p ≤ t * p := Nat.mul_le_mul_right _ h0
      omega
  subst ht
  refine ⟨hd, ?_⟩
  rw [e, Nat.mul_add_mod, Nat.zero_mul, Nat.add_zero, Nat.mod_eq_of_lt (by omega)]
theorem take_mend {F Y d bor top p V' V'' c : Nat} (h1 : V' + Y * d = F + bor * p) (hV : V' < p) (hV2 : V'' < p) (hYp : Y ≤ p) (hY : 0 < Y) (hhi : d ≤ (F + top * p) / Y + 1) (hgt : top < bor) (h2 : V'' + c * p = V' + Y) (hc : c ≤ 1) (htop : F + top * p < Y * p) :
    0 < d ∧ d - 1 = (F + top * p) / Y ∧ V'' = (F + top * p) % Y := by
  obtain ⟨t, rfl⟩ : ∃ t, bor = top + 1 + t := ⟨bor - top - 1, by omega⟩
  have hlt : F + top * p < Y * d := by
    have : (top + 1 + t) * p = top * p + p + t * p := by rw [Nat.add_mul, Nat.add_mul, Nat.one_mul]
    omega
  have hd0 : 0 < d := by
    rcases Nat.eq_zero_or_pos d with h0 | h0
    · subst h0; omega
    · exact h0
  have hdq : (F + top * p) / Y < d := (Nat.div_lt_iff_lt_mul hY).2 (by rw [Nat.mul_comm d]; exact hlt)
  have hd : d = (F + top * p) / Y + 1 := Nat.le_antisymm hhi hdq
  have h3 := Nat.div_add_mod (F + top * p) Y
  have h4 : (F + top * p) % Y < Y := Nat.mod_lt _ hY
  refine ⟨hd0, by rw [hd, Nat.add_sub_cancel], ?_⟩
  have e1 : Y * d = Y * ((F + top * p) / Y) + Y := by rw [hd, Nat.mul_add, Nat.mul_one]
  have e2 : (top + 1 + t) * p = top * p + p + t * p := by rw [Nat.add_mul, Nat.add_mul, Nat.one_mul]
  rw [e1, e2] at h1
  generalize (F + top * p) % Y = m at *
  generalize Y * ((F + top * p) / Y) = z at *
  generalize top * p = tp at *
  have ht : t = 0 := by
    rcases Nat.eq_zero_or_pos t with h0 | h0
    · exact h0
    · have : 1 * p ≤ t * p := Nat.mul_le_mul_right _ h0
      omega
  subst ht
  have : c = 0 ∨ c = 1 := by omega
  rcases this with rfl | rfl <;> omega
end Go.Proofs.Ytekigmkepfhdhaa
