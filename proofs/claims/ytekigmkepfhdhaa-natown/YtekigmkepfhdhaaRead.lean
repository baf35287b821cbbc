/- What a number is asked: Len, Uint, Cmp, Bit. -/
import Derived.Test.YtekigmkepfhdhaaOf
import Derived.Test.YtekigmkepfhdhaaLen64
namespace Go.Proofs.Ytekigmkepfhdhaa
open Go.RowKit
set_option maxRecDepth 100000
theorem P_two (n : Nat) : P n = 2 ^ (64 * n) := by
  unfold P
  rw [show (18446744073709551616 : Nat) = 2 ^ 64 from rfl, ← Nat.pow_mul]
theorem V_div {F : Nat → Nat} {n : Nat} (h : Ok F n) : V F (n + 1) / P n = F n := by
  rw [V_succ, Nat.add_mul_div_right _ _ (P_pos n), Nat.div_eq_of_lt (V_lt h), Nat.zero_add]
theorem bitLen_V {F : Nat → Nat} {n : Nat} (h : Ok F (n + 1)) (h0 : F n ≠ 0) : bitLen (V F (n + 1)) = 64 * n + bitLen (F n) := by
  have e := V_div (h.mono (Nat.le_succ n))
  have hs := bitLen_shift (V F (n + 1)) (64 * n) (by rw [← P_two, e]; exact h0)
  rw [← P_two, e] at hs
  exact hs
theorem isNat_zero_iff {w : World} {a : Option Addr} {n cap : Nat} {x : Nat} (h : IsNat w (.agg #[.slice a n cap]) x) : n = 0 ↔ x = 0 := by
  obtain ⟨a', n', cap', F, e, hs, h0, h1, hv⟩ := h
  simp only [Value.agg.injEq, Array.mk.injEq, List.cons.injEq, Value.slice.injEq, and_true] at e
  obtain ⟨rfl, rfl, rfl⟩ := e
  constructor
  · rintro rfl
    exact hv.symm
  · intro hx
    by_cases e0 : n = 0
    · exact e0
    · have := V_ge F n (by omega)
      have hF := h1 (by omega)
      have hp := P_pos (n - 1)
      have hm : 1 * P (n - 1) ≤ F (n - 1) * P (n - 1) := Nat.mul_le_mul_right _ (by omega)
      omega
set_option maxHeartbeats 400000 in
theorem len_any (v : Value) (x : Nat) (w : World) (h : IsNat w v x) (hx : Fits x) :
    Calls Try.prog 25 #[v] w fun e w' => e = .returned (.int .i64 ((bitLen x : Nat) : Int)) ∧ Below w.heap.size w w' := by
  obtain ⟨a, n, cap, F, rfl, hs, h0, h1, hv⟩ := h
  by_cases e0 : n = 0
  · subst e0
    have hv0 : x = 0 := hv.symm
    subst hv0
    clear hv h1 h0
    go_enter Try.func25, Try.ntmps25
    go_wp2
    go_ret
    exact ⟨rfl, (Below.refl _ _).alloc (Nat.le_refl _) _⟩
  · obtain ⟨m, rfl⟩ : ∃ m, n = m + 1 := ⟨n - 1, by omega⟩
    obtain ⟨b, o, rfl, hw⟩ := hs.at m (by omega)
    have hF : F m ≠ 0 := h1 (by omega)
    have hok := hs.2.2.1
    have hm : m + 1 ≤ 4294967296 := fits_len (hv.symm ▸ hx) h1
    have hlen := bitLen_V hok hF
    rw [hv] at hlen
    have hc := hw m (by omega)
    have hlt : b < w.heap.size := World.block_lt_of_cell? _ _ hc
    have hFm := hok m (by omega)
    have hbl := bitLen_le64 (F m) hFm
    have HL : Hid _ := hlen
    clear hlen hw h0 h1 hv hs hok hx
    have hne : ((m : Int) + 1 == 0) = false := by simp; omega
    go_enter Try.func25, Try.ntmps25
    go_wp2_with fail
    refine (len64_any (F m) _ hFm).mono ?_
    rintro e w1 ⟨rfl, rfl⟩
    go_wp2_with fail
    go_ret
    exact ⟨ret_int (by rw [HL.out]; omega), (Below.refl _ _).alloc (Nat.le_refl _) _⟩
end Go.Proofs.Ytekigmkepfhdhaa
