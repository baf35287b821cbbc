/- math/bits.Len64 and LeadingZeros64 over the program: how many binary digits a word has. -/
import Derived.Test.YtekigmkepfhdhaaBase
import Derived.Laws.MathBits
namespace Go.Proofs.Ytekigmkepfhdhaa
open Go.RowKit
set_option maxRecDepth 100000
theorem wrap64_small (n : Int) (h0 : 0 ≤ n) (h : n ≤ 1000) : wrap64 n = n := IntWalk.wrap64_in n ⟨by omega, by omega⟩
theorem sh32 (n : Nat) (h : 4294967296 ≤ n) : bitLen n = 32 + bitLen (n / 4294967296) := bitLen_shift n 32 (by show n / 4294967296 ≠ 0; omega)
theorem sh16 (n : Nat) (h : 65536 ≤ n) : bitLen n = 16 + bitLen (n / 65536) := bitLen_shift n 16 (by show n / 65536 ≠ 0; omega)
theorem sh8 (n : Nat) (h : 256 ≤ n) : bitLen n = 8 + bitLen (n / 256) := bitLen_shift n 8 (by show n / 256 ≠ 0; omega)
theorem len_fin (k i n : Nat) (z : Int) (hz : z = (k : Int)) (h : i < 256) (hk : k ≤ 56) (e : bitLen n = k + bitLen i) : wrap64 (z + wrap64 ((bitLen i : Nat) : Int)) = ((bitLen n : Nat) : Int) := by
  have hb := bitLen_le8 i h
  subst hz
  rw [wrap64_small ((bitLen i : Nat) : Int) (by omega) (by omega), wrap64_small _ (by omega) (by omega), e]
  omega
theorem len_fin0 (n : Nat) (h : n < 256) : wrap64 (wrap64 ((bitLen n : Nat) : Int)) = ((bitLen n : Nat) : Int) := by
  have hb := bitLen_le8 n h
  rw [wrap64_small ((bitLen n : Nat) : Int) (by omega) (by omega), wrap64_small _ (by omega) (by omega)]
theorem bitLen_le64 (n : Nat) (h : n < 18446744073709551616) : bitLen n ≤ 64 := by
  unfold bitLen
  split
  · omega
  · rename_i h0
    have := (Nat.log2_lt h0).2 (show n < 2 ^ 64 from h)
    omega
set_option maxHeartbeats 1000000 in
theorem len64_111 (n m k j : Nat) (w : World) (hn : n < 18446744073709551616) (i0 : decide ((4294967296 : Int) ≤ (n : Int)) = true) (i1 : (n : Int) / 4294967296 = (m : Int)) (i2 : decide ((65536 : Int) ≤ (m : Int)) = true) (i3 : (m : Int) / 65536 = (k : Int)) (i4 : decide ((256 : Int) ≤ (k : Int)) = true) (i5 : (k : Int) / 256 = (j : Int)) (i6 : (j : Int) < 256) :
    Calls Try.prog 54 #[.int .u64 (n : Int)] w fun e w' => e = .returned (.int .i64 ((bitLen n : Nat) : Int)) ∧ w' = w := by
  have Q0 : Hid (4294967296 ≤ n) := by have := of_decide_eq_true i0; show 4294967296 ≤ n; omega
  have Q1 : Hid (65536 ≤ m) := by have := of_decide_eq_true i2; show 65536 ≤ m; omega
  have Q2 : Hid (256 ≤ k) := by have := of_decide_eq_true i4; show 256 ≤ k; omega
  go_enter Try.func54, Try.ntmps54
  go_wp2
  go_ret
  refine ⟨ret_int ?_, rfl⟩
  simp only [len8tab_get]
  exact len_fin 56 j n 56 (by omega) (by omega) (by omega) (by rw [sh32 n Q0.out, show n / 4294967296 = m from by omega, sh16 m Q1.out, show m / 65536 = k from by omega, sh8 k Q2.out, show k / 256 = j from by omega] <;> omega)
set_option maxHeartbeats 1000000 in
theorem len64_110 (n m k : Nat) (w : World) (hn : n < 18446744073709551616) (i0 : decide ((4294967296 : Int) ≤ (n : Int)) = true) (i1 : (n : Int) / 4294967296 = (m : Int)) (i2 : decide ((65536 : Int) ≤ (m : Int)) = true) (i3 : (m : Int) / 65536 = (k : Int)) (i4 : decide ((256 : Int) ≤ (k : Int)) = false) (i5 : (k : Int) < 256) :
    Calls Try.prog 54 #[.int .u64 (n : Int)] w fun e w' => e = .returned (.int .i64 ((bitLen n : Nat) : Int)) ∧ w' = w := by
  have Q0 : Hid (4294967296 ≤ n) := by have := of_decide_eq_true i0; show 4294967296 ≤ n; omega
  have Q1 : Hid (65536 ≤ m) := by have := of_decide_eq_true i2; show 65536 ≤ m; omega
  go_enter Try.func54, Try.ntmps54
  go_wp2
  go_ret
  refine ⟨ret_int ?_, rfl⟩
  simp only [len8tab_get]
  exact len_fin 48 k n 48 (by omega) (by omega) (by omega) (by rw [sh32 n Q0.out, show n / 4294967296 = m from by omega, sh16 m Q1.out, show m / 65536 = k from by omega] <;> omega)
set_option maxHeartbeats 1000000 in
theorem len64_101 (n m j : Nat) (w : World) (hn : n < 18446744073709551616) (i0 : decide ((4294967296 : Int) ≤ (n : Int)) = true) (i1 : (n : Int) / 4294967296 = (m : Int)) (i2 : decide ((65536 : Int) ≤ (m : Int)) = false) (i3 : decide ((256 : Int) ≤ (m : Int)) = true) (i4 : (m : Int) / 256 = (j : Int)) (i5 : (j : Int) < 256) :
    Calls Try.prog 54 #[.int .u64 (n : Int)] w fun e w' => e = .returned (.int .i64 ((bitLen n : Nat) : Int)) ∧ w' = w := by
  have Q0 : Hid (4294967296 ≤ n) := by have := of_decide_eq_true i0; show 4294967296 ≤ n; omega
  have Q1 : Hid (256 ≤ m) := by have := of_decide_eq_true i3; show 256 ≤ m; omega
  go_enter Try.func54, Try.ntmps54
  go_wp2
  go_ret
  refine ⟨ret_int ?_, rfl⟩
  simp only [len8tab_get]
  exact len_fin 40 j n 40 (by omega) (by omega) (by omega) (by rw [sh32 n Q0.out, show n / 4294967296 = m from by omega, sh8 m Q1.out, show m / 256 = j from by omega] <;> omega)
set_option maxHeartbeats 1000000 in
theorem len64_100 (n m : Nat) (w : World) (hn : n < 18446744073709551616) (i0 : decide ((4294967296 : Int) ≤ (n : Int)) = true) (i1 : (n : Int) / 4294967296 = (m : Int)) (i2 : decide ((65536 : Int) ≤ (m : Int)) = false) (i3 : decide ((256 : Int) ≤ (m : Int)) = false) (i4 : (m : Int) < 256) :
    Calls Try.prog 54 #[.int .u64 (n : Int)] w fun e w' => e = .returned (.int .i64 ((bitLen n : Nat) : Int)) ∧ w' = w := by
  have Q0 : Hid (4294967296 ≤ n) := by have := of_decide_eq_true i0; show 4294967296 ≤ n; omega
  go_enter Try.func54, Try.ntmps54
  go_wp2
  go_ret
  refine ⟨ret_int ?_, rfl⟩
  simp only [len8tab_get]
  exact len_fin 32 m n 32 (by omega) (by omega) (by omega) (by rw [sh32 n Q0.out, show n / 4294967296 = m from by omega] <;> omega)
set_option maxHeartbeats 1000000 in
theorem len64_011 (n k j : Nat) (w : World) (hn : n < 18446744073709551616) (i0 : decide ((4294967296 : Int) ≤ (n : Int)) = false) (i1 : decide ((65536 : Int) ≤ (n : Int)) = true) (i2 : (n : Int) / 65536 = (k : Int)) (i3 : decide ((256 : Int) ≤ (k : Int)) = true) (i4 : (k : Int) / 256 = (j : Int)) (i5 : (j : Int) < 256) :
    Calls Try.prog 54 #[.int .u64 (n : Int)] w fun e w' => e = .returned (.int .i64 ((bitLen n : Nat) : Int)) ∧ w' = w := by
  have Q0 : Hid (65536 ≤ n) := by have := of_decide_eq_true i1; show 65536 ≤ n; omega
  have Q1 : Hid (256 ≤ k) := by have := of_decide_eq_true i3; show 256 ≤ k; omega
  go_enter Try.func54, Try.ntmps54
  go_wp2
  go_ret
  refine ⟨ret_int ?_, rfl⟩
  simp only [len8tab_get]
  exact len_fin 24 j n 24 (by omega) (by omega) (by omega) (by rw [sh16 n Q0.out, show n / 65536 = k from by omega, sh8 k Q1.out, show k / 256 = j from by omega] <;> omega)
set_option maxHeartbeats 1000000 in
theorem len64_010 (n k : Nat) (w : World) (hn : n < 18446744073709551616) (i0 : decide ((4294967296 : Int) ≤ (n : Int)) = false) (i1 : decide ((65536 : Int) ≤ (n : Int)) = true) (i2 : (n : Int) / 65536 = (k : Int)) (i3 : decide ((256 : Int) ≤ (k : Int)) = false) (i4 : (k : Int) < 256) :
    Calls Try.prog 54 #[.int .u64 (n : Int)] w fun e w' => e = .returned (.int .i64 ((bitLen n : Nat) : Int)) ∧ w' = w := by
  have Q0 : Hid (65536 ≤ n) := by have := of_decide_eq_true i1; show 65536 ≤ n; omega
  go_enter Try.func54, Try.ntmps54
  go_wp2
  go_ret
  refine ⟨ret_int ?_, rfl⟩
  simp only [len8tab_get]
  exact len_fin 16 k n 16 (by omega) (by omega) (by omega) (by rw [sh16 n Q0.out, show n / 65536 = k from by omega] <;> omega)
set_option maxHeartbeats 1000000 in
theorem len64_001 (n j : Nat) (w : World) (hn : n < 18446744073709551616) (i0 : decide ((4294967296 : Int) ≤ (n : Int)) = false) (i1 : decide ((65536 : Int) ≤ (n : Int)) = false) (i2 : decide ((256 : Int) ≤ (n : Int)) = true) (i3 : (n : Int) / 256 = (j : Int)) (i4 : (j : Int) < 256) :
    Calls Try.prog 54 #[.int .u64 (n : Int)] w fun e w' => e = .returned (.int .i64 ((bitLen n : Nat) : Int)) ∧ w' = w := by
  have Q0 : Hid (256 ≤ n) := by have := of_decide_eq_true i2; show 256 ≤ n; omega
  go_enter Try.func54, Try.ntmps54
  go_wp2
  go_ret
  refine ⟨ret_int ?_, rfl⟩
  simp only [len8tab_get]
  exact len_fin 8 j n 8 (by omega) (by omega) (by omega) (by rw [sh8 n Q0.out, show n / 256 = j from by omega] <;> omega)
set_option maxHeartbeats 1000000 in
theorem len64_000 (n  : Nat) (w : World) (hn : n < 18446744073709551616) (i0 : decide ((4294967296 : Int) ≤ (n : Int)) = false) (i1 : decide ((65536 : Int) ≤ (n : Int)) = false) (i2 : decide ((256 : Int) ≤ (n : Int)) = false) (i3 : (n : Int) < 256) :
    Calls Try.prog 54 #[.int .u64 (n : Int)] w fun e w' => e = .returned (.int .i64 ((bitLen n : Nat) : Int)) ∧ w' = w := by
  go_enter Try.func54, Try.ntmps54
  go_wp2
  go_ret
  refine ⟨ret_int ?_, rfl⟩
  simp only [len8tab_get]
  exact len_fin0 n (by omega)
theorem len64_any (n : Nat) (w : World) (hn : n < 18446744073709551616) :
    Calls Try.prog 54 #[.int .u64 (n : Int)] w fun e w' => e = .returned (.int .i64 ((bitLen n : Nat) : Int)) ∧ w' = w := by
  by_cases h1 : 4294967296 ≤ n
  · by_cases h2 : 65536 ≤ n / 4294967296
    · by_cases h3 : 256 ≤ n / 4294967296 / 65536
      · exact len64_111 n (n / 4294967296) ((n / 4294967296) / 65536) (((n / 4294967296) / 65536) / 256) w hn (decide_eq_true (by omega)) (by omega) (decide_eq_true (by omega)) (by omega) (decide_eq_true (by omega)) (by omega) (by omega)
      · exact len64_110 n (n / 4294967296) ((n / 4294967296) / 65536) w hn (decide_eq_true (by omega)) (by omega) (decide_eq_true (by omega)) (by omega) (decide_eq_false (by omega)) (by omega)
    · by_cases h3 : 256 ≤ n / 4294967296
      · exact len64_101 n (n / 4294967296) ((n / 4294967296) / 256) w hn (decide_eq_true (by omega)) (by omega) (decide_eq_false (by omega)) (decide_eq_true (by omega)) (by omega) (by omega)
      · exact len64_100 n (n / 4294967296) w hn (decide_eq_true (by omega)) (by omega) (decide_eq_false (by omega)) (decide_eq_false (by omega)) (by omega)
  · by_cases h2 : 65536 ≤ n
    · by_cases h3 : 256 ≤ n / 65536
      · exact len64_011 n (n / 65536) ((n / 65536) / 256) w hn (decide_eq_false (by omega)) (decide_eq_true (by omega)) (by omega) (decide_eq_true (by omega)) (by omega) (by omega)
      · exact len64_010 n (n / 65536) w hn (decide_eq_false (by omega)) (decide_eq_true (by omega)) (by omega) (decide_eq_false (by omega)) (by omega)
    · by_cases h3 : 256 ≤ n
      · exact len64_001 n (n / 256) w hn (decide_eq_false (by omega)) (decide_eq_false (by omega)) (decide_eq_true (by omega)) (by omega) (by omega)
      · exact len64_000 n  w hn (decide_eq_false (by omega)) (decide_eq_false (by omega)) (decide_eq_false (by omega)) (by omega)
set_option maxHeartbeats 400000 in
theorem lz64_any (n : Nat) (w : World) (hn : n < 18446744073709551616) :
    Calls Try.prog 51 #[.int .u64 (n : Int)] w fun e w' => e = .returned (.int .i64 ((64 - bitLen n : Nat) : Int)) ∧ w' = w := by
  have hb := bitLen_le64 n hn
  go_enter Try.func51, Try.ntmps51
  go_wp2_with fail
  refine (len64_any n _ hn).mono ?_
  rintro e w' ⟨rfl, rfl⟩
  go_wp2_with fail
  go_ret
  exact ⟨ret_int (by omega), rfl⟩
end Go.Proofs.Ytekigmkepfhdhaa
