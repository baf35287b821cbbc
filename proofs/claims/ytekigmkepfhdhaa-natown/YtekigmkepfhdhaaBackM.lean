/- Bytes and texts there and back: the plain mathematics. -/
import Derived.Test.YtekigmkepfhdhaaLaw
namespace Go.Proofs.Ytekigmkepfhdhaa
open Go.RowKit
set_option linter.unusedVariables false
theorem strOf_size (D : Nat → Nat) (n : Nat) : (strOf D n).size = n := by simp [strOf, strOfNums, ByteArray.size]
theorem sb_strOf {D : Nat → Nat} {n i : Nat} (hi : i < n) (hD : D i < 256) : sb (strOf D n) i = D i := by
  have hs : i < (strOf D n).size := by rw [strOf_size]; exact hi
  rw [← sb_at hs]
  have : (strOf D n)[i]'hs = UInt8.ofNat (D i) := by
    show (strOf D n).data[i]'_ = _
    simp [strOf, strOfNums]
  rw [this]
  simp
  omega
theorem decVal_eq {s : ByteArray} {x k : Nat} (h : ∀ i, i < k → sb s i = decAt x (k - 1 - i)) : ∀ j, j ≤ k → decVal s j = x / 10 ^ (k - j) % 10 ^ j
  | 0, _ => by simp [decVal, Nat.mod_one]
  | j + 1, hj => by
    have h1 := decVal_eq h j (by omega)
    have h2 := h j (by omega)
    rw [decVal, h1, h2, decAt]
    have e1 : k - 1 - j = k - (j + 1) := by omega
    have e2 : k - j = (k - (j + 1)) + 1 := by omega
    rw [e1, e2, Nat.pow_succ, ← Nat.div_div_eq_div_mul]
    generalize x / 10 ^ (k - (j + 1)) = y
    rw [Nat.pow_succ, Nat.mul_comm (10 ^ j) 10, Nat.mod_mul]
    omega
theorem sb_text {x k i : Nat} (hi : i < k) : sb (decText x k) i = decAt x (k - 1 - i) := sb_strOf (D := fun i => decAt x (k - 1 - i)) hi (decAt_lt _ _)
theorem decVal_text {x k : Nat} (h : DecLen x k) : decVal (decText x k) k = x := by
  rw [decVal_eq (x := x) (k := k) (fun i hi => sb_text hi) k (Nat.le_refl _), Nat.sub_self, Nat.pow_zero, Nat.div_one]
  exact Nat.mod_eq_of_lt h.2.1
theorem digits_text (x k : Nat) : Digits (decText x k) k := by
  intro i hi
  rw [sb_text hi]
  unfold decAt
  omega
theorem text_size (x k : Nat) : (decText x k).size = k := strOf_size _ _
theorem text_head {x k : Nat} (h : DecLen x k) (hk : 1 < k) : sb (decText x k) 0 ≠ 48 := by
  rw [sb_text (by omega), Nat.sub_zero]
  intro e
  have := (decAt_zero (x := x) (p := k - 1) (by rw [show k - 1 + 1 = k by omega]; exact h.2.1)).1 e
  rcases h.2.2 with h3 | h3 <;> omega
theorem text_inj {x y k l : Nat} (h : DecLen x k) (h' : DecLen y l) (e : decText x k = decText y l) : x = y := by
  have hk : k = l := by rw [← text_size x k, e, text_size]
  subst hk
  rw [← decVal_text h, e, decVal_text h']
/-- The number of a string's first i bytes. -/
theorem BV_eq {D : Nat → Nat} {x L : Nat} (h : ∀ i, i < L → D i = byteAt x (L - 1 - i)) : ∀ j, j ≤ L → BV D j = x / 256 ^ (L - j) % 256 ^ j
  | 0, _ => by simp [BV, Nat.mod_one]
  | j + 1, hj => by
    have h1 := BV_eq h j (by omega)
    have h2 := h j (by omega)
    rw [BV, h1, h2, byteAt]
    have e1 : L - 1 - j = L - (j + 1) := by omega
    have e2 : L - j = (L - (j + 1)) + 1 := by omega
    rw [e1, e2, Nat.pow_succ, ← Nat.div_div_eq_div_mul]
    generalize x / 256 ^ (L - (j + 1)) = y
    rw [Nat.pow_succ, Nat.mul_comm (256 ^ j) 256, Nat.mod_mul]
    omega
theorem BV_congr {D E : Nat → Nat} : ∀ {n : Nat}, (∀ i, i < n → D i = E i) → BV D n = BV E n
  | 0, _ => rfl
  | n + 1, h => by rw [BV, BV, BV_congr fun i hi => h i (by omega), h n (by omega)]
theorem pow_256 (n : Nat) : 256 ^ n = 2 ^ (8 * n) := by rw [show (256 : Nat) = 2 ^ 8 from rfl, ← Nat.pow_mul]
theorem lt_byteLen (x : Nat) : x < 256 ^ byteLen x := by
  rw [pow_256]
  refine Nat.lt_of_lt_of_le (bitLen_lt x) (Nat.pow_le_pow_right (by omega) ?_)
  unfold byteLen
  omega
theorem BV_bytes (x : Nat) : BV (fun i => byteAt x (byteLen x - 1 - i)) (byteLen x) = x := by
  rw [BV_eq (x := x) (fun i _ => rfl) _ (Nat.le_refl _), Nat.sub_self, Nat.pow_zero, Nat.div_one]
  exact Nat.mod_eq_of_lt (lt_byteLen x)
theorem bitLen_le_of {x m : Nat} (h : x < 2 ^ m) : bitLen x ≤ m := by
  rcases Nat.lt_or_ge m (bitLen x) with hh | hh
  · have h1 := (bitLen_spec x).2 (by intro e; subst e; simp [bitLen] at hh)
    have h2 : (2 : Nat) ^ m ≤ 2 ^ (bitLen x - 1) := Nat.pow_le_pow_right (by omega) (by omega)
    omega
  · exact hh
theorem byteLen_le {D : Nat → Nat} {n : Nat} (h : ∀ i, i < n → D i < 256) : byteLen (BV D n) ≤ n := by
  have h1 := BV_lt h
  rw [pow_256] at h1
  have := bitLen_le_of h1
  unfold byteLen
  omega
theorem byte_head {x : Nat} (h : 0 < byteLen x) : byteAt x (byteLen x - 1) ≠ 0 := by
  unfold byteAt
  intro e
  have h1 := lt_byteLen x
  have h2 : 256 ^ (byteLen x - 1) ≤ x := by
    rw [pow_256]
    refine Nat.le_trans (Nat.pow_le_pow_right (by omega) ?_) ((bitLen_spec x).2 ?_)
    · unfold byteLen at h ⊢
      omega
    · intro e0
      subst e0
      simp [byteLen, bitLen] at h
  rw [show byteLen x = (byteLen x - 1) + 1 by omega, Nat.pow_succ] at h1
  have h3 : x / 256 ^ (byteLen x - 1) < 256 := Nat.div_lt_of_lt_mul h1
  rw [Nat.mod_eq_of_lt h3] at e
  have := (Nat.div_eq_zero_iff_lt (Nat.pow_pos (by omega))).1 e
  omega
theorem byteText_inj {x y : Nat} (e : byteText x = byteText y) : x = y := by
  have hk : byteLen x = byteLen y := by
    have h1 := strOf_size (fun i => byteAt x (byteLen x - 1 - i)) (byteLen x)
    have h2 := strOf_size (fun i => byteAt y (byteLen y - 1 - i)) (byteLen y)
    unfold byteText at e
    rw [← h1, e, h2]
  rw [← BV_bytes x, ← BV_bytes y, hk]
  have hc : ∀ i, i < byteLen y → byteAt x (byteLen x - 1 - i) = byteAt y (byteLen y - 1 - i) := by
    intro i hi
    have h1 := sb_strOf (D := fun i => byteAt x (byteLen x - 1 - i)) (n := byteLen x) (i := i) (by omega) (byteAt_lt _ _)
    have h2 := sb_strOf (D := fun i => byteAt y (byteLen y - 1 - i)) (n := byteLen y) (i := i) hi (byteAt_lt _ _)
    have e' : strOf (fun i => byteAt x (byteLen x - 1 - i)) (byteLen x) = strOf (fun i => byteAt y (byteLen y - 1 - i)) (byteLen y) := e
    rw [← e'] at h2
    exact h1.symm.trans h2
  rw [hk] at hc
  exact BV_congr (fun i hi => hc i (by omega))
end Go.Proofs.Ytekigmkepfhdhaa
