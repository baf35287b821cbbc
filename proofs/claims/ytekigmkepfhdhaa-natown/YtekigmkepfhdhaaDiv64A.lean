/- math/bits.Div64: the quotient and the rest of two words by one. -/
import Derived.Test.YtekigmkepfhdhaaDiv64
namespace Go.Proofs.Ytekigmkepfhdhaa
open Go.RowKit
set_option maxRecDepth 100000
theorem norm_bounds (y : Nat) (h0 : 0 < y) (hy : y < 18446744073709551616) : y * 2 ^ (64 - bitLen y) < 18446744073709551616 ∧ 9223372036854775808 ≤ y * 2 ^ (64 - bitLen y) ∧ 64 - bitLen y ≤ 63 := by
  obtain ⟨h1, h2⟩ := bitLen_spec y
  have h3 := h2 (by omega)
  have h4 := bitLen_le64 y hy
  have hb : 0 < bitLen y := by
    rcases Nat.eq_zero_or_pos (bitLen y) with e | e
    · rw [e, Nat.pow_zero] at h1
      omega
    · exact e
  refine ⟨?_, ?_, by omega⟩
  · have := Nat.mul_lt_mul_of_pos_right h1 (Nat.two_pow_pos (64 - bitLen y))
    rw [← two64 (bitLen y) h4] at this
    exact this
  · have := Nat.mul_le_mul_right (2 ^ (64 - bitLen y)) h3
    rw [← Nat.pow_add, show bitLen y - 1 + (64 - bitLen y) = 63 by omega] at this
    exact this
theorem and_low (z : Nat) (hz : z < 18446744073709551616) : bits .and .u64 (z : Int) 4294967295 = ((z % 4294967296 : Nat) : Int) := Go.Proofs.Mul64.maskN z hz
theorem glue_lin (A u1 u0 D M : Nat) (h : D + M = A * 4294967296 + u1) : A * 18446744073709551616 + (u1 * 4294967296 + u0) = D * 4294967296 + (M * 4294967296 + u0) := by omega
theorem div_glue {A L u1 u0 Y T : Nat} (hL : L = u1 * 4294967296 + u0) (hT : T = A * 18446744073709551616 + L) (hY : 0 < Y) :
    T / Y = (A * 4294967296 + u1) / Y * 4294967296 + ((A * 4294967296 + u1) % Y * 4294967296 + u0) / Y ∧ T % Y = ((A * 4294967296 + u1) % Y * 4294967296 + u0) % Y := by
  have h1 := Nat.div_add_mod (A * 4294967296 + u1) Y
  have e : T = Y * ((A * 4294967296 + u1) / Y * 4294967296) + ((A * 4294967296 + u1) % Y * 4294967296 + u0) := by
    rw [← Nat.mul_assoc, hT, hL]
    exact glue_lin _ _ _ _ _ h1
  rw [e, Nat.mul_add_div hY, Nat.mul_add_mod]
  exact ⟨rfl, rfl⟩
theorem div64_any (hi lo y : Nat) (w : World) (hhy : hi < y) (hl : lo < 18446744073709551616) (hy : y < 18446744073709551616) :
    Calls Try.prog 68 #[.int .u64 (hi : Int), .int .u64 (lo : Int), .int .u64 (y : Int)] w fun e w' => e = .returned (.tuple #[.int .u64 (((hi * 18446744073709551616 + lo) / y : Nat) : Int), .int .u64 (((hi * 18446744073709551616 + lo) % y : Nat) : Int)]) ∧ ∃ n, w' = w.drewN n := by
  by_cases h0 : hi = 0
  · subst h0
    rw [Nat.zero_mul, Nat.zero_add]
    exact div64_small lo y w hl hy (by omega)
  · obtain ⟨n1, n2, n3⟩ := norm_bounds y (by omega) hy
    obtain ⟨s, hs⟩ : ∃ s, s = 64 - bitLen y := ⟨_, rfl⟩
    rw [← hs] at n1 n2 n3
    obtain ⟨Y, hY⟩ : ∃ Y, Y = y * 2 ^ s := ⟨_, rfl⟩
    rw [← hY] at n1 n2
    have hp := Nat.two_pow_pos s
    have hhi : (hi + 1) * 2 ^ s ≤ Y := by rw [hY]; exact Nat.mul_le_mul_right _ hhy
    rw [Nat.add_mul, Nat.one_mul] at hhi
    have hlo : lo / 2 ^ (64 - s) < 2 ^ s := by
      rw [Nat.div_lt_iff_lt_mul (Nat.two_pow_pos _), ← two64 s (by omega)]
      exact hl
    obtain ⟨A, hA⟩ : ∃ A, A = hi * 2 ^ s + lo / 2 ^ (64 - s) := ⟨_, rfl⟩
    obtain ⟨L, hL⟩ : ∃ L, L = lo * 2 ^ s % 18446744073709551616 := ⟨_, rfl⟩
    have hL64 : L < 18446744073709551616 := by rw [hL]; exact Nat.mod_lt _ (by omega)
    have hAY : A < Y := by omega
    have e1 : IntKind.u64.wrap ((y : Int) * 2 ^ s) = (Y : Int) := by
      rw [show (y : Int) * 2 ^ s = ((y * 2 ^ s : Nat) : Int) by rw [Int.natCast_mul, cast_pow2], ← hY]
      exact wrapU_nat _ n1
    have e4 : bits .or .u64 (IntKind.u64.wrap ((hi : Int) * 2 ^ s)) ((lo : Int) / 2 ^ (64 - s)) = (A : Int) := by
      rw [show (hi : Int) * 2 ^ s = ((hi * 2 ^ s : Nat) : Int) by rw [Int.natCast_mul, cast_pow2], wrapU_nat _ (by omega), div_int, bits_or_u64_nat _ _ (by omega) (by omega), or_add _ _ s (Nat.mul_mod_left _ _) hlo, hA]
    have e5 : IntKind.u64.wrap ((lo : Int) * 2 ^ s) = (L : Int) := by
      rw [show (lo : Int) * 2 ^ s = ((lo * 2 ^ s : Nat) : Int) by rw [Int.natCast_mul, cast_pow2], wrapU_mod, hL]
    obtain ⟨y1, hy1⟩ : ∃ y1, y1 = Y / 4294967296 := ⟨_, rfl⟩
    have hy1p : 0 < y1 := by omega
    obtain ⟨A2, hA2⟩ : ∃ A2, A2 = (A * 4294967296 + L / 4294967296) % Y := ⟨_, rfl⟩
    have hA2Y : A2 < Y := by rw [hA2]; exact Nat.mod_lt _ (by omega)
    have hYs : Y = y1 * 4294967296 + Y % 4294967296 := by omega
    have hc := div64_core hi lo y s Y y1 (Y % 4294967296) A L (L / 4294967296) (L % 4294967296) (A / y1) (A % y1) A2 (A2 / y1) (A2 % y1) w (by omega) hhy hl hy hs n3
      e1 (by omega) (and_low Y n1) e4 e5 (by omega) (and_low L hL64) (wrap_quo A y1 (by omega)) (wrap_rem A y1 (by omega))
      ⟨hYs, hAY, n1, hA2, dig_start hYs (by omega) hy1p, dig_start hYs (by omega) hy1p⟩
      (Nat.mod_lt _ (by omega)) hy1p (by omega) (by omega) (Nat.mod_lt _ (by omega)) (by have := Nat.mod_lt A hy1p; omega) (by have := Nat.mod_lt A2 hy1p; omega) (Nat.lt_of_le_of_lt (Nat.div_le_self _ _) (by omega)) (Nat.lt_of_le_of_lt (Nat.div_le_self _ _) (by omega))
      (wrap_quo A2 y1 (by omega)) (wrap_rem A2 y1 (by omega))
    refine hc.mono fun e w' hh => ⟨hh.1.trans ?_, 0, hh.2⟩
    have hT : (hi * 18446744073709551616 + lo) * 2 ^ s = A * 18446744073709551616 + L := by
      have := shl_lo lo s (by omega)
      rw [← hL] at this
      rw [Nat.add_mul, hA, Nat.add_mul, Nat.mul_right_comm]
      omega
    obtain ⟨g1, g2⟩ := div_glue (A := A) (L := L) (u1 := L / 4294967296) (u0 := L % 4294967296) (Y := Y) (by omega) hT (by omega)
    rw [hY, Nat.mul_div_mul_right _ _ hp, ← hY] at g1
    rw [hY, Nat.mul_mod_mul_right, ← hY] at g2
    rw [hA2, ← g1, ← g2, Nat.mul_div_cancel _ hp]
end Go.Proofs.Ytekigmkepfhdhaa
