/- Bits of words as sums and quotients. -/
import Derived.Test.YtekigmkepfhdhaaAdd
import Derived.Laws.Bits64b
namespace Go.Proofs.Ytekigmkepfhdhaa
open Go.RowKit
theorem pow256 (r : Nat) : 256 ^ r = 2 ^ (r * 8) := by
  rw [show (256 : Nat) = 2 ^ 8 from rfl, ← Nat.pow_mul, Nat.mul_comm]
theorem or_add (h e s : Nat) (hm : h % 2 ^ s = 0) (he : e < 2 ^ s) : h ||| e = h + e := by
  obtain ⟨A, rfl⟩ : ∃ A, h = A <<< s := ⟨h / 2 ^ s, by rw [Nat.shiftLeft_eq]; exact (Nat.div_mul_cancel (Nat.dvd_of_mod_eq_zero hm)).symm⟩
  exact (Nat.shiftLeft_add_eq_or_of_lt he A).symm
theorem cast_pow2 (s : Nat) : ((2 ^ s : Nat) : Int) = (2 : Int) ^ s := by simp
theorem wrapU_nat (a : Nat) (ha : a < 18446744073709551616) : IntKind.u64.wrap (a : Int) = (a : Int) := by rw [IntKind.wrap_u64]; omega
theorem wrapU_mod (a : Nat) : IntKind.u64.wrap (a : Int) = ((a % 18446744073709551616 : Nat) : Int) := by rw [IntKind.wrap_u64]; omega
theorem byte_shift_lt (d r : Nat) (hd : d < 256) (hr : r < 8) : d * 256 ^ r < 256 ^ (r + 1) ∧ d * 256 ^ r < 18446744073709551616 := by
  have h1 : d * 256 ^ r < 256 * 256 ^ r := Nat.mul_lt_mul_of_pos_right hd (Nat.pow_pos (by decide))
  have h2 : (256 : Nat) ^ (r + 1) ≤ 256 ^ 8 := Nat.pow_le_pow_right (by decide) (by omega)
  rw [Nat.pow_succ] at *
  have h3 : (256 : Nat) ^ 8 = 18446744073709551616 := by decide
  omega
theorem or_byte (h d r : Nat) (hh : h < 18446744073709551616) (hm : h % 256 ^ (r + 1) = 0) (hd : d < 256) (hr : r < 8) :
    bits .or .u64 (h : Int) (IntKind.u64.wrap ((d : Int) * 2 ^ (r * 8))) = ((h + d * 256 ^ r : Nat) : Int) := by
  obtain ⟨h1, h2⟩ := byte_shift_lt d r hd hr
  have e : (d : Int) * 2 ^ (r * 8) = ((d * 256 ^ r : Nat) : Int) := by rw [pow256, Int.natCast_mul, cast_pow2]
  rw [e, wrapU_nat _ h2, bits_or_u64_nat _ _ hh h2, or_add h (d * 256 ^ r) ((r + 1) * 8) (by rw [← pow256]; exact hm) (by rw [← pow256]; exact h1)]
theorem or_byte_lt {h d r : Nat} (hh : h < 18446744073709551616) (hm : h % 256 ^ (r + 1) = 0) (hd : d < 256) (hr : r < 8) : h + d * 256 ^ r < 18446744073709551616 := by
  obtain ⟨h1, _⟩ := byte_shift_lt d r hd hr
  have h2 : h + 256 ^ (r + 1) ≤ 18446744073709551616 := by
    obtain ⟨A, rfl⟩ := Nat.dvd_of_mod_eq_zero hm
    have e : (18446744073709551616 : Nat) = 256 ^ (r + 1) * 256 ^ (7 - r) := by rw [← Nat.pow_add, show r + 1 + (7 - r) = 8 by omega]
    rw [e] at hh ⊢
    have hA : A < 256 ^ (7 - r) := Nat.lt_of_mul_lt_mul_left hh
    rw [← Nat.mul_succ]
    exact Nat.mul_le_mul_left _ hA
  omega
end Go.Proofs.Ytekigmkepfhdhaa
