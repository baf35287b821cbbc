/- Contracts of the program's functions, part 19: own work, joined in build order. -/
import Derived.Test.YtjnfcihichaonaaJ18
namespace Go.Proofs.Ytjnfcihichaonaa
open Go.RowKit
set_option maxRecDepth 100000
set_option linter.unusedVariables false
theorem anc_root : ∀ j, Anc 0 j := by
  intro j
  induction j using Nat.strongRecOn with
  | _ j ih =>
    rcases Nat.eq_zero_or_pos j with rfl | h
    · exact .refl
    · exact .step h (ih _ (by omega))
theorem ord_min {le : Nat → Nat → Prop} (T : Total le) {n : Nat} {f : Nat → Nat} (h : Ord le n f n) {b : Nat} (hb : Img n f n b) : le (f 0) b := by
  obtain ⟨i, hi, _, rfl⟩ := hb
  by_cases c : i = 0
  · subst c
    exact T.refl _
  · refine h 0 i (by omega) hi (Ne.symm c) (by omega) (by omega) ?_
    rcases Nat.mod_two_eq_zero_or_one i with e | e
    · exact .inl ⟨rfl, e, anc_root _⟩
    · exact .inr (.inr ⟨rfl, e, .inl (anc_root _)⟩)
theorem ord_max {le : Nat → Nat → Prop} (T : Total le) {n : Nat} {f : Nat → Nat} (h : Ord le (n + 1) f (n + 1)) {b : Nat} (hb : Img (n + 1) f (n + 1) b) : le b (f (if n = 0 then 0 else 1)) := by
  obtain ⟨i, hi, _, rfl⟩ := hb
  split
  · have : i = 0 := by omega
    subst this
    exact T.refl _
  · by_cases c : i = 1
    · subst c
      exact T.refl _
    · refine h i 1 hi (by omega) c (by omega) (by omega) ?_
      rcases Nat.mod_two_eq_zero_or_one i with e | e
      · exact .inr (.inr ⟨e, rfl, .inr (anc_root _)⟩)
      · exact .inr (.inl ⟨e, rfl, anc_root _⟩)
theorem asked_any (n : Nat) (hn : n ≤ 1000000) (w : World) : Calls Try.prog 26 #[.int .i64 (n : Int)] w fun e w' => (∃ d : Nat, e = .returned (.int .i64 ((12 * d + 12 : Nat) : Int)) ∧ n < 2 ^ d ∧ d ≤ 20) ∧ w' = w := by
  go_enter Try.func26, Try.ntmps26
  go_wp2_with fail
  go_loopw [0, 3] (fun t s wr => ∃ (m d : Nat), t = .int .i64 (m : Int) ∧ s = .int .i64 (d : Int) ∧ wr = w ∧ Hid (n < 2 ^ d * (m + 1) ∧ d ≤ 20 ∧ m * 2 ^ d ≤ 1000000)) (fun t _ _ => (intOf t).toNat)
  case atStart => exact ⟨n, 0, rfl, rfl, rfl, ⟨by omega, by omega, by omega⟩⟩
  case round =>
    obtain ⟨m, d, rfl, rfl, rfl, hH⟩ := hrel
    by_cases c : 0 < m
    · have hd : d ≤ 19 := by
        rcases Nat.lt_or_ge 19 d with h | h
        · have h5 : 2 ^ 20 ≤ 2 ^ d := Nat.pow_le_pow_right (by decide) h
          have h6 : 1 * 2 ^ d ≤ m * 2 ^ d := Nat.mul_le_mul_right _ c
          have h3 := hH.out.2.2
          have : (2 : Nat) ^ 20 = 1048576 := by decide
          omega
        · exact h
      have hm : m ≤ 1000000 := by
        have h6 : m * 1 ≤ m * 2 ^ d := Nat.mul_le_mul_left _ (Nat.one_le_two_pow)
        have h3 := hH.out.2.2
        omega
      have e1 : (m : Int).tdiv 2 = ((m / 2 : Nat) : Int) := by rw [Int.tdiv_eq_ediv_of_nonneg (by omega)]; omega
      have e2 : (m : Int) / 2 = ((m / 2 : Nat) : Int) := by omega
      have w1 : IntKind.i64.wrap ((m / 2 : Nat) : Int) = ((m / 2 : Nat) : Int) := by rw [IntKind.wrap_i64]; omega
      have w2 : IntKind.i64.wrap ((d : Int) + 1) = (d : Int) + 1 := by rw [IntKind.wrap_i64]; omega
      obtain ⟨q, eq⟩ : ∃ q, q = m / 2 := ⟨_, rfl⟩
      rw [← eq] at e1 e2 w1
      have HQ : Hid (q = m / 2) := eq
      clear eq
      go_wp2_with fail
      go_roundw
      case rel =>
        obtain ⟨h1, h2, h3⟩ := hH.out
        have eq := HQ.out
        refine ⟨q, d + 1, rfl, by go_num, by first | rfl | trivial, ⟨?_, by omega, ?_⟩⟩
        · rw [Nat.pow_succ, Nat.mul_assoc]
          have : 2 ^ d * (m + 1) ≤ 2 ^ d * (2 * (q + 1)) := Nat.mul_le_mul_left _ (by omega)
          omega
        · rw [Nat.pow_succ, Nat.mul_comm (2 ^ d) 2, ← Nat.mul_assoc]
          have : q * 2 * 2 ^ d ≤ m * 2 ^ d := Nat.mul_le_mul_right _ (by omega)
          omega
      case measure =>
        have eq := HQ.out
        simp [intOf]
        omega
    · obtain rfl : m = 0 := by omega
      have hd : d ≤ 20 := hH.out.2.1
      have w3 : IntKind.i64.wrap (12 * (d : Int)) = 12 * (d : Int) := by rw [IntKind.wrap_i64]; omega
      have w4 : IntKind.i64.wrap (12 * (d : Int) + 12) = ((12 * d + 12 : Nat) : Int) := by rw [IntKind.wrap_i64]; omega
      go_wp2_with fail
      go_ret
      exact ⟨⟨d, by simp, by have := hH.out.1; omega, hd⟩, rfl⟩
/-- So seldom is it asked. -/
theorem few_asked {M n d : Nat} (h : 2 ^ M ≤ 4 * (n + 1) * (n + 1)) (hd : n < 2 ^ d) : M ≤ 12 * d + 12 := by
  rcases Nat.lt_or_ge (2 * d + 2) M with h1 | h1
  · have h2 : 2 ^ (2 * d + 3) ≤ 2 ^ M := Nat.pow_le_pow_right (by decide) h1
    have h3 : (n + 1) * (n + 1) ≤ 2 ^ d * 2 ^ d := Nat.mul_le_mul hd hd
    have h4 : 2 ^ (2 * d + 3) = 8 * (2 ^ d * 2 ^ d) := by rw [Nat.pow_add, Nat.two_mul, Nat.pow_add]; omega
    rw [Nat.mul_assoc] at h
    have h5 : 0 < 2 ^ d * 2 ^ d := Nat.mul_pos (Nat.two_pow_pos _) (Nat.two_pow_pos _)
    omega
  · omega
theorem few_pushed {M n d : Nat} (h : 2 ^ M ≤ 4 * (n + 1)) (hd : n < 2 ^ d) : M ≤ 12 * d + 12 := by
  refine few_asked (n := n) (Nat.le_trans h ?_) hd
  exact Nat.le_mul_of_pos_right _ (by omega)
end Go.Proofs.Ytjnfcihichaonaa
