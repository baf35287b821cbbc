/- The plain mathematics of numbers in words of 64 bits, and what it means that a value of package nat is a number in a world. -/
import Derived.Test.YtekigmkepfhdhaaRows
import Derived.WalkKit
import Derived.WalkSpells
import Derived.WalkLawsBesides
import Derived.Deep.OwnRows
import Derived.Deep.QuietTactic
import Derived.BigQuiet
namespace Go.Proofs.Ytekigmkepfhdhaa
open Go.RowKit
/-- The n-th power of 2^64. -/
def P (n : Nat) : Nat := 18446744073709551616 ^ n
theorem P_zero : P 0 = 1 := rfl
theorem P_succ (n : Nat) : P (n + 1) = P n * 18446744073709551616 := Nat.pow_succ ..
theorem P_one : P 1 = 18446744073709551616 := by rw [P_succ, P_zero, Nat.one_mul]
theorem P_add (a b : Nat) : P (a + b) = P a * P b := Nat.pow_add ..
theorem P_pos (n : Nat) : 0 < P n := Nat.pow_pos (by decide)
theorem P_le {a b : Nat} (h : a ≤ b) : P a ≤ P b := Nat.pow_le_pow_right (by decide) h
theorem P_lt {a b : Nat} (h : a < b) : P a < P b := Nat.pow_lt_pow_right (by decide) h
/-- The value of n words, the lowest first. -/
def V (F : Nat → Nat) : Nat → Nat
  | 0 => 0
  | n + 1 => V F n + F n * P n
theorem V_zero (F : Nat → Nat) : V F 0 = 0 := rfl
theorem V_succ (F : Nat → Nat) (n : Nat) : V F (n + 1) = V F n + F n * P n := rfl
theorem V_congr {F G : Nat → Nat} : ∀ {n : Nat}, (∀ i, i < n → F i = G i) → V F n = V G n
  | 0, _ => rfl
  | n + 1, h => by rw [V_succ, V_succ, V_congr fun i hi => h i (by omega), h n (by omega)]
/-- All words below n are words. -/
def Ok (F : Nat → Nat) (n : Nat) : Prop := ∀ i, i < n → F i < 18446744073709551616
theorem Ok.mono {F : Nat → Nat} {m n : Nat} (h : Ok F n) (hm : m ≤ n) : Ok F m := fun i hi => h i (by omega)
theorem V_lt {F : Nat → Nat} : ∀ {n : Nat}, Ok F n → V F n < P n
  | 0, _ => by rw [V_zero, P_zero]; omega
  | n + 1, h => by
    have h1 := V_lt (h.mono (Nat.le_succ n))
    have h2 := h n (by omega)
    have h3 : (F n + 1) * P n ≤ 18446744073709551616 * P n := Nat.mul_le_mul_right _ (by omega)
    rw [V_succ, P_succ, Nat.mul_comm (P n)]
    rw [Nat.add_mul] at h3
    omega
theorem V_split (F : Nat → Nat) (m : Nat) : ∀ n, V F (m + n) = V F m + P m * V (fun i => F (m + i)) n
  | 0 => by simp [V_zero]
  | n + 1 => by
    rw [← Nat.add_assoc, V_succ, V_split F m n, V_succ, P_add, Nat.mul_add, Nat.add_assoc, Nat.mul_left_comm]
theorem V_ge (F : Nat → Nat) (n : Nat) (h : 0 < n) : F (n - 1) * P (n - 1) ≤ V F n := by
  obtain ⟨m, rfl⟩ : ∃ m, n = m + 1 := ⟨n - 1, by omega⟩
  rw [V_succ, Nat.add_sub_cancel]
  omega
theorem V_const0 : ∀ n, V (fun _ => 0) n = 0
  | 0 => rfl
  | n + 1 => by rw [V_succ, V_const0 n, Nat.zero_mul]
theorem V_zeros {F : Nat → Nat} {n : Nat} (h : ∀ i, i < n → F i = 0) : V F n = 0 := by
  rw [V_congr (G := fun _ => 0) h, V_const0]
/-- Words above m that are 0 make nothing. -/
theorem V_top {F : Nat → Nat} {m n : Nat} (hm : m ≤ n) (h : ∀ i, m ≤ i → i < n → F i = 0) : V F n = V F m := by
  obtain ⟨k, rfl⟩ : ∃ k, n = m + k := ⟨n - m, by omega⟩
  rw [V_split, V_zeros fun i hi => h (m + i) (by omega) (by omega), Nat.mul_zero, Nat.add_zero]
/-- More words than any machine holds. -/
def lim : Nat := 4294967296
theorem le_lim {n : Nat} (h : n ≤ lim) : n ≤ 4294967296 := h
/-- A number of at most so many words. -/
structure Fits (x : Nat) : Prop where
  lt : x < P lim
theorem V_long {F : Nat → Nat} {n m : Nat} (hm : m < n) (h1 : F (n - 1) ≠ 0) : P m ≤ V F n := by
  have h2 : P m ≤ P (n - 1) := P_le (by omega)
  have h3 := V_ge F n (by omega)
  have h4 : 1 * P (n - 1) ≤ F (n - 1) * P (n - 1) := Nat.mul_le_mul_right _ (by omega)
  omega
theorem len_le_of {F : Nat → Nat} {n m : Nat} (h : V F n < P m) (h1 : 0 < n → F (n - 1) ≠ 0) : n ≤ m := by
  rcases Nat.lt_or_ge m n with h' | h'
  · exact absurd h (Nat.not_lt.2 (V_long h' (h1 (by omega))))
  · exact h'
theorem fits_len {F : Nat → Nat} {n : Nat} (h : Fits (V F n)) (h1 : 0 < n → F (n - 1) ≠ 0) : n ≤ 4294967296 := le_lim (len_le_of h.lt h1)
/-- n words lie in w from b's cell o on. -/
def Words (w : World) (b o n : Nat) (F : Nat → Nat) : Prop := ∀ i, i < n → w.cell? ⟨b, o + i, none⟩ = some (.int .u64 (F i : Nat))
/-- A slice of words. -/
def Sl (w : World) (a : Option Addr) (n cap : Nat) (F : Nat → Nat) : Prop :=
  n ≤ cap ∧ cap ≤ 9223372036854775807 ∧ Ok F n ∧ (n = 0 ∨ ∃ b o, a = some ⟨b, o, none⟩ ∧ Words w b o n F)
/-- v is the number x. -/
def IsNat (w : World) (v : Value) (x : Nat) : Prop :=
  ∃ a n cap F, v = .agg #[.slice a n cap] ∧ Sl w a n cap F ∧ (n = 0 → a = none ∧ cap = 0) ∧ (0 < n → F (n - 1) ≠ 0) ∧ V F n = x
theorem Words.mono {w w' : World} {b o n : Nat} {F : Nat → Nat} (h : Words w b o n F) (hb : Below w.heap.size w w') : Words w' b o n F :=
  fun i hi => cell_later hb (h i hi)
theorem Sl.mono {w w' : World} {a : Option Addr} {n cap : Nat} {F : Nat → Nat} (h : Sl w a n cap F) (hb : Below w.heap.size w w') : Sl w' a n cap F := by
  obtain ⟨h1, h2, h3, h4⟩ := h
  refine ⟨h1, h2, h3, h4.imp id ?_⟩
  rintro ⟨b, o, ha, hw⟩
  exact ⟨b, o, ha, hw.mono hb⟩
theorem IsNat.mono {w w' : World} {v : Value} {x : Nat} (h : IsNat w v x) (hb : Below w.heap.size w w') : IsNat w' v x := by
  obtain ⟨a, n, cap, F, rfl, hs, h0, h1, hv⟩ := h
  exact ⟨a, n, cap, F, rfl, hs.mono hb, h0, h1, hv⟩
theorem isNat_zero (w : World) : IsNat w (.agg #[.slice none 0 0]) 0 :=
  ⟨none, 0, 0, fun _ => 0, rfl, ⟨Nat.le_refl _, by omega, fun i hi => absurd hi (by omega), .inl rfl⟩, fun _ => ⟨rfl, rfl⟩, fun h => absurd h (by omega), rfl⟩
theorem bel_refl (w : World) : Below w.heap.size w w := Below.refl _ _
theorem bel_trans {a b c : World} (h : Below a.heap.size a b) (k : Below b.heap.size b c) : Below a.heap.size a c := h.trans (k.mono h.size)
theorem ret_int {k : IntKind} {a b : Int} (h : a = b) : Ending.returned (.int k a) = .returned (.int k b) := by rw [h]
theorem Try.info22 : (Try.prog.info? 22).map (fun i => (i.zero, i.size, i.bytes)) = some (some (.int .u64 0), 1, 8) := by kernel_rfl
end Go.Proofs.Ytekigmkepfhdhaa
