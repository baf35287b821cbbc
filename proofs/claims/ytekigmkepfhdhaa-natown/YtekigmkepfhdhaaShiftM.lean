/- Shifts of words: the plain mathematics. -/
import Derived.Test.YtekigmkepfhdhaaBytes
namespace Go.Proofs.Ytekigmkepfhdhaa
open Go.RowKit
theorem two64 (r : Nat) (hr : r ≤ 64) : (18446744073709551616 : Nat) = 2 ^ r * 2 ^ (64 - r) := by rw [← Nat.pow_add, show r + (64 - r) = 64 by omega]
theorem shl_lo (f r : Nat) (hr : r ≤ 64) : f * 2 ^ r % 18446744073709551616 + f / 2 ^ (64 - r) * 18446744073709551616 = f * 2 ^ r := by
  have e : f * 2 ^ r / 18446744073709551616 = f / 2 ^ (64 - r) := by
    rw [two64 r hr, Nat.mul_comm f, Nat.mul_div_mul_left _ _ (Nat.two_pow_pos r)]
  rw [← e]
  have := Nat.mod_add_div (f * 2 ^ r) 18446744073709551616
  omega
theorem shl_mod (f r : Nat) (hr : r ≤ 64) : f * 2 ^ r % 18446744073709551616 = f % 2 ^ (64 - r) * 2 ^ r := by
  rw [two64 r hr, Nat.mul_comm f, Nat.mul_mod_mul_left, Nat.mul_comm]
theorem or_low (h f r : Nat) (hh : h < 2 ^ r) (hr : r ≤ 63) :
    bits .or .u64 (h : Int) (IntKind.u64.wrap ((f : Int) * 2 ^ r)) = ((h + f * 2 ^ r % 18446744073709551616 : Nat) : Int) ∧ h + f * 2 ^ r % 18446744073709551616 < 18446744073709551616 := by
  have e : (f : Int) * 2 ^ r = ((f * 2 ^ r : Nat) : Int) := by rw [Int.natCast_mul, cast_pow2]
  have hm := shl_mod f r (by omega)
  have hlt : f % 2 ^ (64 - r) + 1 ≤ 2 ^ (64 - r) := Nat.mod_lt _ (Nat.two_pow_pos _)
  have hlt2 : (f % 2 ^ (64 - r) + 1) * 2 ^ r ≤ 2 ^ (64 - r) * 2 ^ r := Nat.mul_le_mul_right _ hlt
  rw [Nat.mul_comm (2 ^ (64 - r)), ← two64 r (by omega), Nat.add_mul, ← hm] at hlt2
  have h64 : h < 18446744073709551616 := by omega
  have hor : f * 2 ^ r % 18446744073709551616 ||| h = f * 2 ^ r % 18446744073709551616 + h := or_add _ _ r (by rw [hm]; exact Nat.mul_mod_left _ _) hh
  refine ⟨?_, by omega⟩
  rw [e, wrapU_mod, bits_or_u64_nat _ _ h64 (Nat.mod_lt _ (by omega)), Nat.or_comm, hor, Nat.add_comm]
theorem or_high (u v r : Nat) (hu : u < 18446744073709551616) (hr : r ≤ 63) :
    bits .or .u64 ((u / 2 ^ r : Nat) : Int) (IntKind.u64.wrap ((v : Int) * 2 ^ (64 - r))) = ((u / 2 ^ r + v * 2 ^ (64 - r) % 18446744073709551616 : Nat) : Int) ∧ u / 2 ^ r + v * 2 ^ (64 - r) % 18446744073709551616 < 18446744073709551616 := by
  have e : (v : Int) * 2 ^ (64 - r) = ((v * 2 ^ (64 - r) : Nat) : Int) := by rw [Int.natCast_mul, cast_pow2]
  have hm := shl_mod v (64 - r) (by omega)
  rw [show 64 - (64 - r) = r by omega] at hm
  have hd : u / 2 ^ r < 2 ^ (64 - r) := by
    rw [Nat.div_lt_iff_lt_mul (Nat.two_pow_pos r), Nat.mul_comm, ← two64 r (by omega)]
    exact hu
  have hlt : v % 2 ^ r + 1 ≤ 2 ^ r := Nat.mod_lt _ (Nat.two_pow_pos _)
  have hlt2 : (v % 2 ^ r + 1) * 2 ^ (64 - r) ≤ 2 ^ r * 2 ^ (64 - r) := Nat.mul_le_mul_right _ hlt
  rw [← two64 r (by omega), Nat.add_mul, ← hm] at hlt2
  have hor : v * 2 ^ (64 - r) % 18446744073709551616 ||| u / 2 ^ r = v * 2 ^ (64 - r) % 18446744073709551616 + u / 2 ^ r := or_add _ _ (64 - r) (by rw [hm]; exact Nat.mul_mod_left _ _) hd
  refine ⟨?_, by omega⟩
  rw [e, wrapU_mod, bits_or_u64_nat _ _ (by omega) (Nat.mod_lt _ (by omega)), Nat.or_comm, hor, Nat.add_comm]
/-- k words of F, shifted up by r binary digits and f words, lie in the row H of N words. -/
def Upped (F : Nat → Nat) (N f r k : Nat) (H : Nat → Nat) : Prop :=
  V H N = V F k * 2 ^ r * P f ∧ H (f + k) < 2 ^ r ∧ ∀ j, f + k < j → H j = 0
theorem upped_start (F : Nat → Nat) (N f r : Nat) : Upped F N f r 0 (fun _ => 0) := ⟨by rw [V_const0, V_zero]; simp, Nat.two_pow_pos r, fun _ _ => rfl⟩
theorem Upped.step {F : Nat → Nat} {N f r k : Nat} {H : Nat → Nat} (h : Upped F N f r k H) (hk : f + k + 1 < N) (hr : r ≤ 63) (hF : F k < 18446744073709551616) :
    Upped F N f r (k + 1) (put (put H (f + k) (H (f + k) + F k * 2 ^ r % 18446744073709551616)) (f + k + 1) (F k / 2 ^ (64 - r))) := by
  obtain ⟨h1, h2, h3⟩ := h
  have z : put H (f + k) (H (f + k) + F k * 2 ^ r % 18446744073709551616) (f + k + 1) = 0 := by rw [put_other _ _ (by omega)]; exact h3 _ (by omega)
  refine ⟨?_, ?_, fun j hj => ?_⟩
  · have e1 := V_put_add (put H (f + k) (H (f + k) + F k * 2 ^ r % 18446744073709551616)) (f + k + 1) N (F k / 2 ^ (64 - r)) hk
    rw [z, Nat.zero_add] at e1
    rw [e1, V_put_add _ _ _ _ (by omega), h1, V_succ, P_succ, Nat.add_mul, Nat.add_mul, P_add]
    have e2 := congrArg (· * (P f * P k)) (shl_lo (F k) r (by omega))
    simp only [Nat.add_mul] at e2
    have e3 : F k / 2 ^ (64 - r) * (P f * P k * 18446744073709551616) = F k / 2 ^ (64 - r) * 18446744073709551616 * (P f * P k) := by rw [Nat.mul_comm (P f * P k) 18446744073709551616, ← Nat.mul_assoc]
    have e4 : F k * P k * 2 ^ r * P f = F k * 2 ^ r * (P f * P k) := by rw [Nat.mul_right_comm (F k), Nat.mul_assoc, Nat.mul_comm (P k)]
    omega
  · rw [show f + (k + 1) = f + k + 1 by omega, put_same, Nat.div_lt_iff_lt_mul (Nat.two_pow_pos _), ← two64 r (by omega)]
    exact hF
  · rw [put_other _ _ (by omega), put_other _ _ (by omega)]
    exact h3 j (by omega)
/-- Words shifted down by r binary digits. -/
def downW (U : Nat → Nat) (r i : Nat) : Nat := U i / 2 ^ r + U (i + 1) * 2 ^ (64 - r) % 18446744073709551616
theorem down_eq (U : Nat → Nat) (r : Nat) (hr : r ≤ 63) : ∀ k, V (downW U r) k * 2 ^ r + U 0 % 2 ^ r = V U k + U k % 2 ^ r * P k
  | 0 => by rw [V_zero, V_zero, P_zero, Nat.zero_mul, Nat.mul_one]
  | k + 1 => by
    have ih := down_eq U r hr k
    rw [V_succ, V_succ, P_succ, Nat.add_mul]
    have hm := shl_mod (U (k + 1)) (64 - r) (by omega)
    rw [show 64 - (64 - r) = r by omega] at hm
    have e1 : downW U r k * 2 ^ r + U k % 2 ^ r = U k + U (k + 1) % 2 ^ r * 18446744073709551616 := by
      unfold downW
      rw [hm, Nat.add_mul, Nat.mul_assoc, Nat.mul_comm (2 ^ (64 - r)), ← two64 r (by omega)]
      have := Nat.div_add_mod (U k) (2 ^ r)
      rw [Nat.mul_comm] at this
      omega
    have e2 := congrArg (· * P k) e1
    simp only [Nat.add_mul] at e2
    have e3 : downW U r k * P k * 2 ^ r = downW U r k * 2 ^ r * P k := Nat.mul_right_comm ..
    have e4 : U (k + 1) % 2 ^ r * (P k * 18446744073709551616) = U (k + 1) % 2 ^ r * 18446744073709551616 * P k := by rw [Nat.mul_assoc, Nat.mul_comm (P k)]
    omega
theorem down_val {U : Nat → Nat} {r m : Nat} (hr : r ≤ 63) (h0 : U m = 0) : V (downW U r) m = V U m / 2 ^ r := by
  have h := down_eq U r hr m
  rw [h0, Nat.zero_mod, Nat.zero_mul, Nat.add_zero] at h
  rw [← h, Nat.mul_comm, Nat.mul_add_div (Nat.two_pow_pos r), Nat.div_eq_of_lt (Nat.mod_lt _ (Nat.two_pow_pos r)), Nat.add_zero]
theorem div_int (f k : Nat) : ((f : Nat) : Int) / 2 ^ k = ((f / 2 ^ k : Nat) : Int) := by simp
end Go.Proofs.Ytekigmkepfhdhaa
