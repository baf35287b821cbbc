/- Contracts of the program's functions, part 4: own work, joined in build order. -/
import Derived.Test.YtjnfcihichaonaaJ3
import Derived.Laws.Bits64
namespace Go.Proofs.Ytjnfcihichaonaa
open Go.RowKit
set_option maxRecDepth 100000
set_option linter.unusedVariables false
theorem even_any (p : Nat) (hp : p < 4611686018427387904) (w : World) : Calls Try.prog 73 #[.int .i64 (p : Int)] w fun e w' => e = .returned (.bool (decide (p % 2 = 0))) ∧ w' = w := by
  have e1 : (p : Int).tmod 2 = ((p % 2 : Nat) : Int) := by rw [Int.tmod_eq_emod_of_nonneg (by omega)]; omega
  have e2 : IntKind.i64.wrap ((p % 2 : Nat) : Int) = ((p % 2 : Nat) : Int) := by rw [IntKind.wrap_i64]; omega
  go_enter Try.func73, Try.ntmps73
  rcases Nat.mod_two_eq_zero_or_one p with c | c
  · rw [c] at e1 e2
    go_wp2_with fail
    go_ret
    refine ⟨?_, rfl⟩
    simp [c]
  · rw [c] at e1 e2
    go_wp2_with fail
    go_ret
    refine ⟨?_, rfl⟩
    simp [c]
theorem above_any (p : Nat) (h1 : 1 < p) (hp : p < 4611686018427387904) (w : World) : Calls Try.prog 61 #[.int .i64 (p : Int)] w fun e w' => e = .returned (.int .i64 (up p : Int)) ∧ w' = w := by
  have e1 : (p : Int).tmod 2 = ((p % 2 : Nat) : Int) := by rw [Int.tmod_eq_emod_of_nonneg (by omega)]; omega
  have e3 : (p : Int).tdiv 2 = ((p / 2 : Nat) : Int) := by rw [Int.tdiv_eq_ediv_of_nonneg (by omega)]; omega
  have e4 : (((p / 2 : Nat) : Int) - 1) = ((p / 2 - 1 : Nat) : Int) := by omega
  have e5 : ((p / 2 - 1 : Nat) : Int).tdiv 2 = (((p / 2 - 1) / 2 : Nat) : Int) := by rw [Int.tdiv_eq_ediv_of_nonneg (by omega)]; omega
  have e6 : ((p / 2 - 1 : Nat) : Int) / 2 = (((p / 2 - 1) / 2 : Nat) : Int) := by omega
  have e7 : (p : Int) / 2 = ((p / 2 : Nat) : Int) := by omega
  have e8 : (p : Int) % 2 = ((p % 2 : Nat) : Int) := by omega
  have w1 : IntKind.i64.wrap ((p / 2 : Nat) : Int) = ((p / 2 : Nat) : Int) := by rw [IntKind.wrap_i64]; omega
  have w2 : IntKind.i64.wrap ((p / 2 - 1 : Nat) : Int) = ((p / 2 - 1 : Nat) : Int) := by rw [IntKind.wrap_i64]; omega
  have w3 : IntKind.i64.wrap (((p / 2 - 1) / 2 : Nat) : Int) = (((p / 2 - 1) / 2 : Nat) : Int) := by rw [IntKind.wrap_i64]; omega
  have w4 : IntKind.i64.wrap ((((p / 2 - 1) / 2 : Nat) : Int) * 2) = (((p / 2 - 1) / 2 : Nat) : Int) * 2 := by rw [IntKind.wrap_i64]; omega
  have w5 : IntKind.i64.wrap ((p % 2 : Nat) : Int) = ((p % 2 : Nat) : Int) := by rw [IntKind.wrap_i64]; omega
  have w6 : IntKind.i64.wrap ((((p / 2 - 1) / 2 : Nat) : Int) * 2 + ((p % 2 : Nat) : Int)) = ((up p : Nat) : Int) := by unfold up; rw [IntKind.wrap_i64]; omega
  generalize up p = U at w6 ⊢
  generalize p % 2 = r at *
  generalize (p / 2 - 1) / 2 = d at *
  generalize p / 2 - 1 = c at *
  generalize p / 2 = a at *
  go_enter Try.func61, Try.ntmps61
  go_wp2_with fail
  go_ret
  exact ⟨rfl, rfl⟩
/-- The other place of a pair. -/
def tw (p : Nat) : Nat := if p % 2 = 0 then p + 1 else p - 1
theorem xor_one (p : Nat) : p ^^^ 1 = tw p := by
  have h1 : (p ^^^ 1) / 2 = p / 2 := by rw [Nat.xor_div_two]; simp
  have h2 : (p ^^^ 1) % 2 = (p + 1) % 2 := by
    have h3 := Nat.testBit_xor p 1 0
    have h4 : (p ^^^ 1) % 2 = (if (p ^^^ 1).testBit 0 then 1 else 0) := by rw [Nat.testBit_zero]; rcases Nat.mod_two_eq_zero_or_one (p ^^^ 1) with h | h <;> simp [h]
    rw [h4, h3, Nat.testBit_zero, Nat.testBit_zero]
    rcases Nat.mod_two_eq_zero_or_one p with h | h <;> simp [h] <;> omega
  unfold tw
  split <;> omega
theorem bits_twin (p : Nat) (hp : p < 4611686018427387904) : bits .xor .i64 (p : Int) 1 = ((tw p : Nat) : Int) := by
  have hx : p ^^^ 1 < 2 ^ 62 := Nat.xor_lt_two_pow (by omega) (by omega)
  have h1 : (BitVec.ofInt 64 (p : Int)).toNat = p := by
    rw [BitVec.ofInt_natCast, BitVec.toNat_ofNat]; exact Nat.mod_eq_of_lt (by omega)
  show IntKind.i64.wrap ((BitVec.ofInt 64 (p : Int) ^^^ BitVec.ofInt 64 (1 : Int)).toNat : Int) = _
  rw [BitVec.toNat_xor, h1, show (BitVec.ofInt 64 (1 : Int)).toNat = 1 by rfl, ← xor_one, IntKind.wrap_i64]
  omega
/-- The place of p's kind in a pair. -/
def ofM (n pr p : Nat) : Option Nat := if n ≤ 2 * pr then none else if p % 2 = 0 ∨ 2 * pr + 1 = n then some (2 * pr) else some (2 * pr + 1)
def ofV : Option Nat → Value
  | none => .tuple #[.int .i64 0, .bool false]
  | some c => .tuple #[.int .i64 (c : Int), .bool true]
end Go.Proofs.Ytjnfcihichaonaa
