/- Contracts of the program's functions, part 9: own work, joined in build order. -/
import Derived.Test.YtfjmnhmdipjenaaGreatDoorJ8
import Derived.Lib.OthersKept
import Derived.Laws.RangeAny
import Derived.Shelf.Strings.Builder1
import Derived.Shelf.Strings.Builder2
import Derived.Shelf.Strings.OnBuilder
import Derived.Shelf.Strings.BuilderF
import Derived.Shelf.Strconv.Atoi
import Derived.Shelf.Strconv.Itoa0
import Derived.Shelf.Strconv.Itoa1
import Derived.Shelf.LaysM
import Derived.Shelf.Strconv.Itoa2
import Derived.Shelf.Strconv.Itoa3
import Derived.Shelf.Strconv.AtoiErrFast
import Derived.Shelf.Strconv.ParseIntEmpty
import Derived.Shelf.Strconv.AtoiFail
import Derived.Shelf.Strconv.Clone
import Derived.Shelf.Strconv.SyntaxError
import Derived.Shelf.LaysC
import Derived.Shelf.Strconv.ToError
import Derived.Shelf.Strconv.AtoiErr
import Derived.Shelf.Strconv.Lower
import Derived.Shelf.Strconv.ParseUint10
import Derived.Shelf.Strconv.ParseUint10Empty
import Derived.Shelf.Strconv.ParseUint10Any
import Derived.Shelf.Strconv.ParseInt10
import Derived.Shelf.Strconv.AtoiLong
import Derived.Shelf.Strconv.AtoiInnerAll
import Derived.Shelf.Strconv.RangeError
import Derived.Shelf.Strconv.ToErrorRange
import Derived.Shelf.Strconv.AtoiAll
import Derived.Shelf.Strings.Prefix
import Derived.Shelf.Bits.Mul64
import Derived.Shelf.Slices.Turned
import Derived.Test.YtfjmnhmdipjenaaGreatDoorProg
import Derived.Lib.AppendIntMem
namespace Go.Proofs.YtfjmnhmdipjenaaGreatDoor
open Go.RowKit
set_option maxRecDepth 100000
set_option linter.unusedVariables false
/-- The n-th power of 2^32. -/
def B (n : Nat) : Nat := 4294967296 ^ n
theorem B_zero : B 0 = 1 := rfl
theorem B_succ (n : Nat) : B (n + 1) = B n * 4294967296 := Nat.pow_succ ..
theorem B_one : B 1 = 4294967296 := by rw [B_succ, B_zero, Nat.one_mul]
theorem B_add (a b : Nat) : B (a + b) = B a * B b := Nat.pow_add ..
theorem B_le {a b : Nat} (h : a ≤ b) : B a ≤ B b := Nat.pow_le_pow_right (by decide) h
theorem B_two (n : Nat) : B n = 2 ^ (32 * n) := by rw [B, Nat.pow_mul]
/-- The value of n digits, the lowest first. -/
def U (F : Nat → Nat) : Nat → Nat
  | 0 => 0
  | n + 1 => U F n + F n * B n
theorem U_zero (F : Nat → Nat) : U F 0 = 0 := rfl
theorem U_succ (F : Nat → Nat) (n : Nat) : U F (n + 1) = U F n + F n * B n := rfl
theorem U_congr {F G : Nat → Nat} : ∀ {n : Nat}, (∀ i, i < n → F i = G i) → U F n = U G n
  | 0, _ => rfl
  | n + 1, h => by rw [U_succ, U_succ, U_congr fun i hi => h i (by omega), h n (by omega)]
/-- All digits below n are digits. -/
def Dg (F : Nat → Nat) (n : Nat) : Prop := ∀ i, i < n → F i < 4294967296
theorem Dg.mono {F : Nat → Nat} {m n : Nat} (h : Dg F n) (hm : m ≤ n) : Dg F m := fun i hi => h i (by omega)
theorem U_lt {F : Nat → Nat} : ∀ {n : Nat}, Dg F n → U F n < B n
  | 0, _ => by rw [U_zero, B_zero]; omega
  | n + 1, h => by
    have h1 := U_lt (h.mono (Nat.le_succ n))
    have h2 := h n (by omega)
    have h3 : (F n + 1) * B n ≤ 4294967296 * B n := Nat.mul_le_mul_right _ (by omega)
    rw [U_succ, B_succ, Nat.mul_comm (B n)]
    rw [Nat.add_mul] at h3
    omega
theorem U_split (F : Nat → Nat) (m : Nat) : ∀ n, U F (m + n) = U F m + B m * U (fun i => F (m + i)) n
  | 0 => by simp [U_zero]
  | n + 1 => by
    rw [← Nat.add_assoc, U_succ, U_split F m n, U_succ, B_add, Nat.mul_add, Nat.add_assoc, Nat.mul_left_comm]
theorem U_zeros {F : Nat → Nat} {n : Nat} (h : ∀ i, i < n → F i = 0) : U F n = 0 := by
  induction n with
  | zero => rfl
  | succ n ih => rw [U_succ, ih fun i hi => h i (by omega), h n (by omega), Nat.zero_mul]
theorem U_top {F : Nat → Nat} {m n : Nat} (hm : m ≤ n) (h : ∀ i, m ≤ i → i < n → F i = 0) : U F n = U F m := by
  obtain ⟨k, rfl⟩ : ∃ k, n = m + k := ⟨n - m, by omega⟩
  rw [U_split, U_zeros fun i hi => h (m + i) (by omega) (by omega), Nat.mul_zero, Nat.add_zero]
theorem U_ge (F : Nat → Nat) (n : Nat) (h : 0 < n) : F (n - 1) * B (n - 1) ≤ U F n := by
  obtain ⟨m, rfl⟩ : ∃ m, n = m + 1 := ⟨n - 1, by omega⟩
  rw [U_succ, Nat.add_sub_cancel]
  omega
/-- v is the number x, to the base 2^32. -/
def RNat (w : World) (v : Value) (x : Nat) : Prop :=
  ∃ a n cap F, v = .agg #[.slice a n cap] ∧ Sl w a n cap F ∧ Dg F n ∧ (0 < n → F (n - 1) ≠ 0) ∧ U F n = x
theorem RNat.mono {w w' : World} {v : Value} {x : Nat} (h : RNat w v x) (hb : Below w.heap.size w w') : RNat w' v x := by
  obtain ⟨a, n, cap, F, e, hs, hd, h1, hv⟩ := h
  exact ⟨a, n, cap, F, e, hs.mono hb, hd, h1, hv⟩
theorem RNat.setCell {w : World} {v : Value} {x : Nat} (h : RNat w v x) {p : Addr} (hp : ∀ k q, w.cell? p ≠ some (.int k q)) (u : Value) : RNat (w.setCell p u) v x := by
  obtain ⟨a, n, cap, F, e, hs, hd, h1, hv⟩ := h
  exact ⟨a, n, cap, F, e, hs.setCell hp u, hd, h1, hv⟩
theorem RNat.isAgg {w : World} {v : Value} {x : Nat} (h : RNat w v x) : ∃ a n cap, v = .agg #[.slice a n cap] := by
  obtain ⟨a, n, cap, F, e, _⟩ := h
  exact ⟨a, n, cap, e⟩
theorem RNat.open {w : World} {a : Option Addr} {n cap : Nat} {x : Nat} (h : RNat w (.agg #[.slice a n cap]) x) : ∃ F, Sl w a n cap F ∧ Dg F n ∧ (0 < n → F (n - 1) ≠ 0) ∧ U F n = x := by
  obtain ⟨a', n', cap', F, e, h2⟩ := h
  cases e
  exact ⟨F, h2⟩
theorem U_long {F : Nat → Nat} {n m : Nat} (hm : m < n) (h1 : F (n - 1) ≠ 0) : B m ≤ U F n := by
  have h2 : B m ≤ B (n - 1) := B_le (by omega)
  have h3 := U_ge F n (by omega)
  have h4 : 1 * B (n - 1) ≤ F (n - 1) * B (n - 1) := Nat.mul_le_mul_right _ (by omega)
  omega
theorem U_len_le {F : Nat → Nat} {n m : Nat} (h : U F n < B m) (h1 : 0 < n → F (n - 1) ≠ 0) : n ≤ m := by
  rcases Nat.lt_or_ge m n with h' | h'
  · exact absurd h (Nat.not_lt.2 (U_long h' (h1 (by omega))))
  · exact h'
/-- A number of at most so many digits as any machine holds. -/
structure RFits (x : Nat) : Prop where
  lt : x < B lim
theorem rfits_of {x n : Nat} (h : x < B n) (hn : n ≤ 4294967296) : RFits x := ⟨Nat.lt_of_lt_of_le h (B_le (show n ≤ lim from hn))⟩
def two (x y : Nat) (i : Nat) : Nat := if i = 0 then x else y
end Go.Proofs.YtfjmnhmdipjenaaGreatDoor

namespace Go.Proofs.YtfjmnhmdipjenaaGreatDoor
open Go.RowKit
set_option maxRecDepth 100000
set_option linter.unusedVariables false
end Go.Proofs.YtfjmnhmdipjenaaGreatDoor

namespace Go.Proofs.YtfjmnhmdipjenaaGreatDoor
open Go.RowKit
set_option maxRecDepth 100000
set_option linter.unusedVariables false
theorem U_cut {G : Nat → Nat} {m n : Nat} (h : m ≤ n) : U (cutU G m 0) n = U G m := by
  rw [U_top h fun i h1 h2 => cutU_out (by omega)]
  exact U_congr fun i hi => by rw [cutU_in (by omega), Nat.zero_add]
theorem dg_cut {G : Nat → Nat} {m : Nat} (hG : Dg G m) (i : Nat) : cutU G m 0 i < 4294967296 := by
  by_cases h : 0 + i < m
  · rw [cutU_in h]; exact hG _ h
  · rw [cutU_out h]; omega
/-- i digits of a sum are made, c is carried. -/
structure Pl (w0 wr : World) (v : Value) (F : Nat → Nat) (n : Nat) (G : Nat → Nat) (m i c : Nat) (H : Nat → Nat) : Prop where
  own : OR wr 93 w0.heap.size v i (wd H)
  dg : Dg H i
  sum : U H i + c * B i = U (cutU F n 0) i + U (cutU G m 0) i
  car : c ≤ 1
  bel : Below w0.heap.size w0 wr
theorem pl_sum {H : Nat → Nat} {F G i c s f g b : Nat} (hs : s = f + g + c) (h : H i = s % 4294967296) (e : F + c * b = G) : F + s % 4294967296 * b + s / 4294967296 * (b * 4294967296) = G + f * b + g * b := by
  have h1 := Nat.div_add_mod s 4294967296
  have h2 : s * b = (4294967296 * (s / 4294967296) + s % 4294967296) * b := by rw [h1]
  rw [hs] at h2 ⊢
  grind
theorem OR.blk {w : World} {e : TypeId} {base n : Nat} {v : Value} {G : Nat → Value} (h : OR w e base v n G) : ∀ j, v.ownBlock = some j → base ≤ j := by
  intro j hj
  rcases h with ⟨rfl, rfl⟩ | ⟨g, cap, f, rfl, h1, _⟩
  · simp [Value.ownBlock] at hj
  · simp only [Value.ownBlock, Option.some.injEq] at hj
    omega
theorem Pl.step {w0 wr w2 : World} {v v2 : Value} {F G H : Nat → Nat} {n m i c f g : Nat} (h : Pl w0 wr v F n G m i c H) (hf : f = cutU F n 0 i ∧ g = cutU G m 0 i) (lf : f < 4294967296) (lg : g < 4294967296)
    (ho : OR w2 93 w0.heap.size v2 (i + 1) (fun j => if j = i then .int .u64 (((f : Int) + g + c) % 4294967296) else wd H j)) (hb : Below w0.heap.size w0 w2) :
    Pl w0 w2 v2 F n G m (i + 1) ((f + g + c) / 4294967296) (put H i ((f + g + c) % 4294967296)) := by
  refine ⟨OR.congr ho fun j hj => ?_, fun j hj => ?_, ?_, ?_, hb⟩
  · unfold wd put
    split
    · congr 1
    · rfl
  · unfold put
    split
    · exact Nat.mod_lt _ (by decide)
    · exact h.dg j (by omega)
  · rw [U_succ, U_succ, U_succ, put_same, U_congr (F := put H i _) (G := H) fun j hj => put_other _ _ (by omega), ← hf.1, ← hf.2, B_succ]
    have := pl_sum (H := fun _ => (f + g + c) % 4294967296) (i := 0) (s := f + g + c) (f := f) (g := g) rfl rfl h.sum
    omega
  · have := h.car
    omega
theorem Pl.done {w0 wr : World} {v : Value} {F G H : Nat → Nat} {n m mx c : Nat} (h : Pl w0 wr v F n G m (mx + 1) c H) (hn : n ≤ mx) (hm : m ≤ mx) (dF : Dg F n) (dG : Dg G m) : U H (mx + 1) = U F n + U G m := by
  have h1 := h.sum
  rw [U_cut (by omega), U_cut (by omega)] at h1
  have h2 := Nat.lt_of_lt_of_le (U_lt dF) (B_le hn)
  have h3 := Nat.lt_of_lt_of_le (U_lt dG) (B_le hm)
  have h4 := B_succ mx
  have h5 : c = 0 ∨ c = 1 := by have := h.car; omega
  rcases h5 with rfl | rfl <;> omega
end Go.Proofs.YtfjmnhmdipjenaaGreatDoor

namespace Go.Proofs.YtfjmnhmdipjenaaGreatDoor
open Go.RowKit
set_option maxRecDepth 100000
set_option linter.unusedVariables false
/-- A number stays where another block is written. -/
theorem RNat.stay {w w' : World} {b o k c x g : Nat} (h : RNat w (.agg #[.slice (some ⟨b, o, none⟩) k c]) x) (hg : w.grownBy w' (some g)) (hne : b ≠ g) : RNat w' (.agg #[.slice (some ⟨b, o, none⟩) k c]) x := by
  obtain ⟨F, ⟨s1, s2, s3, s4⟩, hd, h1, hv⟩ := h.open
  refine ⟨_, k, c, F, rfl, ⟨s1, s2, s3, ?_⟩, hd, h1, hv⟩
  rcases s4 with e | ⟨b', o', e, hw⟩
  · exact .inl e
  · cases e
    exact .inr ⟨b, o, rfl, fun i hi => hg.cell (hw i hi) (by simp only [ne_eq, Option.some.injEq]; exact hne)⟩
end Go.Proofs.YtfjmnhmdipjenaaGreatDoor

namespace Go.Proofs.YtfjmnhmdipjenaaGreatDoor
open Go.RowKit
set_option maxRecDepth 100000
set_option linter.unusedVariables false
/-- The value of i bytes, the lowest first. -/
def TV (E : Nat → Nat) : Nat → Nat
  | 0 => 0
  | n + 1 => TV E n + E n * 256 ^ n
theorem U_put_add (H : Nat → Nat) (q N e : Nat) (hq : q < N) : U (put H q (H q + e)) N = U H N + e * B q := by
  obtain ⟨t, rfl⟩ : ∃ t, N = q + 1 + t := ⟨N - (q + 1), by omega⟩
  rw [U_split _ (q + 1), U_split H (q + 1), U_succ, U_succ, put_same, U_congr (F := put H q (H q + e)) (G := H) (n := q) fun i hi => put_other _ _ (by omega),
    U_congr (F := fun i => put H q (H q + e) (q + 1 + i)) (G := fun i => H (q + 1 + i)) fun i hi => put_other _ _ (by omega), Nat.add_mul]
  omega
theorem B_256 (n : Nat) : B n = 256 ^ (4 * n) := by
  unfold B
  rw [show (4294967296 : Nat) = 256 ^ 4 from rfl, ← Nat.pow_mul]
/-- i bytes are laid. -/
def RFil (E : Nat → Nat) (N i : Nat) (H : Nat → Nat) : Prop := U H N = TV E i ∧ ∀ q, q < N → H q < 256 ^ (min 4 (i - 4 * q))
theorem RFil.low {E : Nat → Nat} {N i : Nat} {H : Nat → Nat} (h : RFil E N i H) (hN : i / 4 < N) : H (i / 4) < 256 ^ (i % 4) := by
  have := h.2 (i / 4) hN
  rwa [show min 4 (i - 4 * (i / 4)) = i % 4 by omega] at this
theorem low_add {h d r : Nat} (hh : h < 256 ^ r) (hd : d < 256) : h + d * 256 ^ r < 256 ^ (r + 1) := by
  have : (d + 1) * 256 ^ r ≤ 256 * 256 ^ r := Nat.mul_le_mul_right _ hd
  rw [Nat.pow_succ, Nat.mul_comm (256 ^ r)]
  rw [Nat.add_mul] at this
  omega
theorem RFil.step {E : Nat → Nat} {N i : Nat} {H : Nat → Nat} (h : RFil E N i H) (hN : i / 4 < N) (hE : E i < 256) : RFil E N (i + 1) (put H (i / 4) (H (i / 4) + E i * 256 ^ (i % 4))) := by
  have hl := h.low hN
  refine ⟨?_, fun q hq => ?_⟩
  · rw [U_put_add _ _ _ _ hN, h.1, TV, B_256, Nat.mul_assoc, ← Nat.pow_add, show i % 4 + 4 * (i / 4) = i by omega]
  · by_cases e : q = i / 4
    · subst e
      rw [put_same, show min 4 (i + 1 - 4 * (i / 4)) = i % 4 + 1 by omega]
      exact low_add hl hE
    · rw [put_other _ _ e]
      refine Nat.lt_of_lt_of_le (h.2 q hq) (Nat.pow_le_pow_right (by decide) (by omega))
theorem RFil.dg {E : Nat → Nat} {N i : Nat} {H : Nat → Nat} (h : RFil E N i H) : Dg H N := fun q hq => by
  have h1 := h.2 q hq
  have h2 : (256 : Nat) ^ (min 4 (i - 4 * q)) ≤ 256 ^ 4 := Nat.pow_le_pow_right (by decide) (by omega)
  have h3 : (256 : Nat) ^ 4 = 4294967296 := by decide
  omega
end Go.Proofs.YtfjmnhmdipjenaaGreatDoor

namespace Go.Proofs.YtfjmnhmdipjenaaGreatDoor
open Go.RowKit
set_option maxRecDepth 100000
set_option linter.unusedVariables false
/-- The number of the digits from the i-th on. -/
def Tp (F : Nat → Nat) (n i : Nat) : Nat := U (fun j => F (i + j)) (n - i)
theorem Tp_all (F : Nat → Nat) (n : Nat) : Tp F n 0 = U F n := by
  rw [Tp, Nat.sub_zero]
  exact U_congr fun j hj => by rw [Nat.zero_add]
theorem Tp_step (F : Nat → Nat) {n i : Nat} (h : i < n) : Tp F n i = F i + 4294967296 * Tp F n (i + 1) := by
  unfold Tp
  rw [show n - i = 1 + (n - (i + 1)) by omega, U_split, B_one, U_succ, U_zero, B_zero, Nat.zero_add, Nat.mul_one, Nat.add_zero]
  congr 2
  exact U_congr fun j hj => by rw [show i + (1 + j) = i + 1 + j by omega]
theorem Tp_congr {F G : Nat → Nat} {n i : Nat} (h : ∀ j, i ≤ j → j < n → F j = G j) : Tp F n i = Tp G n i := U_congr fun j hj => h _ (by omega) (by omega)
theorem small_lt {r f d : Nat} (hr : r < d) (hf : f < 4294967296) : (r * 4294967296 + f) / d < 4294967296 := by
  refine (Nat.div_lt_iff_lt_mul (by omega)).2 ?_
  have : (r + 1) * 4294967296 ≤ d * 4294967296 := Nat.mul_le_mul_right _ hr
  omega
theorem small_eq {f T Q r d s : Nat} (h : T = Q * d + r) (hs : s = r * 4294967296 + f) : f + 4294967296 * T = (s / d + 4294967296 * Q) * d + s % d := by
  have h1 := Nat.div_add_mod s d
  have h2 : 4294967296 * T = 4294967296 * (Q * d + r) := by rw [h]
  grind
/-- The digits from the i-th on are divided. -/
structure Sm (F : Nat → Nat) (n d i r : Nat) (H : Nat → Nat) : Prop where
  eq : Tp F n i = Tp H n i * d + r
  lt : r < d
  dg : ∀ j, i ≤ j → j < n → H j < 4294967296
theorem Sm.step {F H : Nat → Nat} {n d i r : Nat} (h : Sm F n d (i + 1) r H) (hi : i < n) (hf : F i < 4294967296) : Sm F n d i ((r * 4294967296 + F i) % d) (put H i ((r * 4294967296 + F i) / d)) := by
  refine ⟨?_, Nat.mod_lt _ (Nat.lt_of_le_of_lt (Nat.zero_le _) h.lt), fun j h1 h2 => ?_⟩
  · rw [Tp_step F hi, Tp_step _ hi, put_same, Tp_congr (F := put H i _) (G := H) fun j h1 h2 => put_other _ _ (by omega)]
    exact small_eq h.eq rfl
  · unfold put
    split
    · exact small_lt h.lt hf
    · exact h.dg j (by omega) h2
theorem Sm.done {F H : Nat → Nat} {n d r : Nat} (h : Sm F n d 0 r H) : U H n = U F n / d ∧ r = U F n % d := by
  have h1 := h.eq
  rw [Tp_all, Tp_all] at h1
  have h2 := h.lt
  have h3 : 0 < d := by omega
  rw [h1, Nat.mul_comm (U H n) d]
  constructor
  · rw [Nat.mul_add_div h3, Nat.div_eq_of_lt h2, Nat.add_zero]
  · rw [Nat.mul_add_mod, Nat.mod_eq_of_lt h2]
end Go.Proofs.YtfjmnhmdipjenaaGreatDoor

namespace Go.Proofs.YtfjmnhmdipjenaaGreatDoor
open Go.RowKit
set_option maxRecDepth 100000
set_option linter.unusedVariables false
end Go.Proofs.YtfjmnhmdipjenaaGreatDoor

namespace Go.Proofs.YtfjmnhmdipjenaaGreatDoor
open Go.RowKit
set_option maxRecDepth 100000
set_option linter.unusedVariables false
theorem U_put (H : Nat → Nat) (q N e : Nat) (hq : q < N) : U (put H q e) N + H q * B q = U H N + e * B q := by
  obtain ⟨t, rfl⟩ : ∃ t, N = q + 1 + t := ⟨N - (q + 1), by omega⟩
  rw [U_split _ (q + 1), U_split H (q + 1), U_succ, U_succ, put_same, U_congr (F := put H q e) (G := H) (n := q) fun i hi => put_other _ _ (by omega),
    U_congr (F := fun i => put H q e (q + 1 + i)) (G := fun i => H (q + 1 + i)) fun i hi => put_other _ _ (by omega)]
  omega
theorem tm_le {f g h c : Nat} (hf : f < 4294967296) (hg : g < 4294967296) (hh : h < 4294967296) (hc : c < 4294967296) : f * g + h + c < 18446744073709551616 := by
  have : f * g ≤ 4294967295 * 4294967295 := Nat.mul_le_mul (by omega) (by omega)
  omega
theorem tm_eq {u' u h b s f g c T fb : Nat} (e1 : u' + h * b = u + s % 4294967296 * b) (hs : s = f * g + h + c) (e2 : u + c * b = T) (hfb : f * b * g = fb) : u' + s / 4294967296 * (b * 4294967296) = T + fb := by
  have h1 := Nat.div_add_mod s 4294967296
  have h2 : s * b = (4294967296 * (s / 4294967296) + s % 4294967296) * b := by rw [h1]
  have h3 : s * b = (f * g + h + c) * b := by rw [hs]
  grind
/-- i rows of a product are laid, and k digits of the next one; c is carried. -/
structure Tm (F : Nat → Nat) (n : Nat) (G : Nat → Nat) (m i k c : Nat) (H : Nat → Nat) : Prop where
  eq : U H (n + m) + c * B (i + k) = U F i * U G m + F i * B i * U G k
  dg : Dg H (n + m)
  top : ∀ j, i + m ≤ j → H j = 0
  car : c < 4294967296
theorem Tm.step {F G H : Nat → Nat} {n m i k c : Nat} (h : Tm F n G m i k c H) (hi : i < n) (hk : k < m) (hf : F i < 4294967296) (hg : G k < 4294967296) :
    Tm F n G m i (k + 1) ((F i * G k + H (i + k) + c) / 4294967296) (put H (i + k) ((F i * G k + H (i + k) + c) % 4294967296)) := by
  have hl := tm_le hf hg (h.dg (i + k) (by omega)) h.car
  refine ⟨?_, fun j hj => ?_, fun j hj => ?_, by omega⟩
  · rw [show i + (k + 1) = i + k + 1 by omega, B_succ, U_succ, Nat.mul_add, ← Nat.add_assoc]
    refine tm_eq (U_put H (i + k) (n + m) _ (by omega)) rfl h.eq ?_
    rw [B_add]
    grind
  · unfold put
    split
    · exact Nat.mod_lt _ (by decide)
    · exact h.dg j hj
  · rw [put_other _ _ (by omega)]
    exact h.top j hj
theorem Tm.next {F G H : Nat → Nat} {n m i c : Nat} (h : Tm F n G m i m c H) (hi : i < n) : Tm F n G m (i + 1) 0 0 (put H (i + m) c) := by
  refine ⟨?_, fun j hj => ?_, fun j hj => ?_, by omega⟩
  · have h1 := U_put H (i + m) (n + m) c (by omega)
    rw [h.top (i + m) (by omega)] at h1
    have h2 := h.eq
    rw [U_succ, U_zero]
    grind
  · unfold put
    split
    · exact h.car
    · exact h.dg j hj
  · rw [put_other _ _ (by omega)]
    exact h.top j (by omega)
theorem Tm.again {F G H : Nat → Nat} {n m i : Nat} (h : Tm F n G m i 0 0 H) : Tm F n G m i 0 0 H := h
end Go.Proofs.YtfjmnhmdipjenaaGreatDoor

namespace Go.Proofs.YtfjmnhmdipjenaaGreatDoor
open Go.RowKit
set_option maxRecDepth 100000
set_option linter.unusedVariables false
theorem decVal_lt {s : ByteArray} : ∀ {i : Nat}, Digits s i → decVal s i < 10 ^ i
  | 0, _ => by simp [decVal]
  | i + 1, h => by
    have h1 := decVal_lt (i := i) fun j hj => h j (by omega)
    have h2 := h i (by omega)
    rw [decVal, Nat.pow_succ]
    omega
/-- Where Parse stands: its two boxes, the number so far. -/
structure PS (w wr : World) (ax : Option Addr) (nx cx X : Nat) : Prop where
  c1 : wr.cell? ⟨w.heap.size, 0, none⟩ = some (.slice none 0 0)
  f1 : wr.frozen? ⟨w.heap.size, 0, none⟩ = false
  c2 : wr.cell? ⟨w.heap.size + 1, 0, none⟩ = some (.slice ax nx cx)
  f2 : wr.frozen? ⟨w.heap.size + 1, 0, none⟩ = false
  num : RNat wr (.agg #[.slice ax nx cx]) X
  bel : Below w.heap.size w wr
theorem PS.mono {w wr w' : World} {ax : Option Addr} {nx cx X : Nat} (h : PS w wr ax nx cx X) (hb : Below wr.heap.size wr w') : PS w w' ax nx cx X :=
  ⟨cell_later hb h.c1, (hb.frozen (World.block_lt_of_cell? _ _ h.c1)).trans h.f1, cell_later hb h.c2, (hb.frozen (World.block_lt_of_cell? _ _ h.c2)).trans h.f2, h.num.mono hb, bel_go h.bel hb⟩
theorem PS.set {w wr : World} {ax a4 : Option Addr} {nx cx X n4 c4 Y : Nat} (h : PS w wr ax nx cx X) (hv : RNat wr (.agg #[.slice a4 n4 c4]) Y) : PS w (wr.setCell ⟨w.heap.size + 1, 0, none⟩ (.slice a4 n4 c4)) a4 n4 c4 Y := by
  have h1 := h.c1
  have h2 := h.c2
  have h3 := h.f1
  have h4 := h.f2
  refine ⟨?_, ?_, ?_, ?_, hv.setCell (no_int_slice h2) _, h.bel.setCell (by show _ ≤ _ + 1; omega) _⟩
  all_goals simp [go_sem, *]
end Go.Proofs.YtfjmnhmdipjenaaGreatDoor

namespace Go.Proofs.YtfjmnhmdipjenaaGreatDoor
open Go.RowKit
set_option linter.unusedVariables false
/-- Is there a digit? -/
def isD (s : ByteArray) (i : Nat) : Bool := decide (i < s.size) && (decide (48 ≤ sb s i) && decide (sb s i ≤ 57))
def runF (s : ByteArray) : Nat → Nat → Nat
  | 0, i => i
  | k + 1, i => if isD s i then runF s k (i + 1) else i
/-- Where the digits end that begin at i. -/
def runE (s : ByteArray) (i : Nat) : Nat := runF s (s.size - i) i
theorem isD_lt {s : ByteArray} {i : Nat} (h : isD s i = true) : i < s.size := by
  unfold isD at h
  simp at h
  exact h.1
theorem isD_dig {s : ByteArray} {i : Nat} (h : isD s i = true) : 48 ≤ sb s i ∧ sb s i ≤ 57 := by
  unfold isD at h
  simp at h
  exact h.2
theorem runE_yes {s : ByteArray} {i : Nat} (h : isD s i = true) : runE s i = runE s (i + 1) := by
  have := isD_lt h
  unfold runE
  rw [show s.size - i = s.size - (i + 1) + 1 by omega, runF, if_pos h]
theorem runE_no {s : ByteArray} {i : Nat} (h : isD s i = false) : runE s i = i := by
  unfold runE
  cases s.size - i with
  | zero => rfl
  | succ k => rw [runF, if_neg (by simp [h])]
theorem runF_ge (s : ByteArray) : ∀ k i, i ≤ runF s k i
  | 0, i => Nat.le_refl _
  | k + 1, i => by
    rw [runF]
    split
    · have := runF_ge s k (i + 1); omega
    · omega
theorem runE_ge (s : ByteArray) (i : Nat) : i ≤ runE s i := runF_ge s _ i
theorem runF_le (s : ByteArray) : ∀ k i, i ≤ s.size → runF s k i ≤ s.size
  | 0, i, h => h
  | k + 1, i, h => by
    rw [runF]
    split
    · rename_i hd
      have := isD_lt hd
      exact runF_le s k (i + 1) (by omega)
    · exact h
theorem runE_le {s : ByteArray} {i : Nat} (h : i ≤ s.size) : runE s i ≤ s.size := runF_le s _ i h
theorem runF_dig (s : ByteArray) : ∀ k i j, i ≤ j → j < runF s k i → isD s j = true
  | 0, i, j, h1, h2 => by rw [runF] at h2; omega
  | k + 1, i, j, h1, h2 => by
    rw [runF] at h2
    split at h2
    · rename_i hd
      rcases Nat.eq_or_lt_of_le h1 with e | e
      · rw [← e]; exact hd
      · exact runF_dig s k (i + 1) j e h2
    · omega
theorem runE_dig {s : ByteArray} {i j : Nat} (h1 : i ≤ j) (h2 : j < runE s i) : isD s j = true := runF_dig s _ i j h1 h2
/-- A piece of a text. -/
theorem sb_extract {s : ByteArray} {a b i : Nat} (hb : b ≤ s.size) (hi : a + i < b) : sb (s.extract a b) i = sb s (a + i) := by
  have h1 : i < (s.extract a b).size := by rw [ByteArray.size_extract]; omega
  have h2 : a + i < s.size := by omega
  unfold sb
  rw [dif_pos h1, dif_pos h2]
  rw [ByteArray.getElem_extract h1]
theorem size_ext {s : ByteArray} {a b : Nat} (hb : b ≤ s.size) : (s.extract a b).size = b - a := by rw [ByteArray.size_extract]; omega
theorem sb_app {s t : ByteArray} {i : Nat} : sb (s ++ t) i = if i < s.size then sb s i else sb t (i - s.size) := by
  have e := ByteArray.size_append (a := s) (b := t)
  unfold sb
  by_cases h1 : i < s.size
  · rw [if_pos h1, dif_pos h1, dif_pos (by omega), ByteArray.getElem_append_left h1]
  · rw [if_neg h1]
    by_cases h2 : i - s.size < t.size
    · rw [dif_pos h2, dif_pos (by omega), ByteArray.getElem_append_right (by omega)]
    · rw [dif_neg h2, dif_neg (by omega)]
theorem dig_ext {s : ByteArray} {i : Nat} (h : i ≤ s.size) : Digits (s.extract i (runE s i)) (s.extract i (runE s i)).size := by
  intro j hj
  have h1 := runE_le h
  rw [size_ext h1] at hj
  rw [sb_extract h1 (by omega)]
  exact isD_dig (runE_dig (i := i) (by omega) (by omega))
theorem dig_app {s t : ByteArray} (h : Digits s s.size) (k : Digits t t.size) : Digits (s ++ t) (s ++ t).size := by
  intro j hj
  rw [ByteArray.size_append] at hj
  rw [sb_app]
  split
  · exact h j (by assumption)
  · exact k _ (by omega)
end Go.Proofs.YtfjmnhmdipjenaaGreatDoor

namespace Go.Proofs.YtfjmnhmdipjenaaGreatDoor
open Go.RowKit
set_option maxRecDepth 100000
set_option linter.unusedVariables false
theorem sb_get {s : ByteArray} {i : Nat} : sb s i = (s.get! i).toNat := by
  unfold sb
  split
  · rename_i h
    have := get_at s i h
    rw [← this]
    rfl
  · rename_i h
    simp [ByteArray.get!, getElem!_neg, h]
    rfl
theorem decode_skip (s : ByteArray) (pos : Nat) : ∀ j, 1 ≤ j → j < (Utf8.decode s pos).2 → 128 ≤ (s.get! (pos + j)).toNat ∧ pos + j < s.size := by
  intro j h1 h2
  simp only [Utf8.decode] at h2
  repeat' split at h2
  all_goals first | (exfalso; omega) | skip
  all_goals simp only [Bool.and_eq_true, decide_eq_true_eq, beq_iff_eq] at *
  all_goals rcases j with _ | _ | _ | _ | j
  all_goals first | (exfalso; omega) | (refine ⟨?_, ?_⟩ <;> simp_all <;> omega)
/-- What the words are of those bytes ahead of i: where the word that is under way begins; the words. -/
def ws (s : ByteArray) : Nat → Nat × List ByteArray
  | 0 => (0, [])
  | i + 1 => if sb s i = 32 then (i + 1, if (ws s i).1 < i then (ws s i).2 ++ [s.extract (ws s i).1 i] else (ws s i).2) else ws s i
def wordsL (s : ByteArray) : List ByteArray := if (ws s s.size).1 < s.size then (ws s s.size).2 ++ [s.extract (ws s s.size).1 s.size] else (ws s s.size).2
theorem ws_le (s : ByteArray) (i : Nat) : (ws s i).1 ≤ i ∧ (ws s i).2.length ≤ i := by
  induction i with
  | zero => simp [ws]
  | succ i ih =>
    rw [ws]
    split
    · refine ⟨Nat.le_refl _, ?_⟩
      show (if (ws s i).1 < i then _ else _ : List ByteArray).length ≤ _
      split
      · simp; omega
      · omega
    · omega
theorem ws_skip {s : ByteArray} {i : Nat} : ∀ k, (∀ j, j < k → sb s (i + j) ≠ 32) → ws s (i + k) = ws s i
  | 0, _ => rfl
  | k + 1, h => by
    rw [← Nat.add_assoc, ws, if_neg (h k (by omega)), ws_skip k fun j hj => h j (by omega)]
/-- Texts by their place. -/
def tx (l : List ByteArray) (i : Nat) : Value := .string (l.getD i ⟨#[]⟩)
theorem tx_snoc (l : List ByteArray) (x : ByteArray) (j : Nat) (hj : j < l.length + 1) : (if j = l.length then .string x else tx l j) = tx (l ++ [x]) j := by
  unfold tx
  by_cases e : j = l.length
  · rw [if_pos e, e]; simp [List.getD]
  · rw [if_neg e]
    have : j < l.length := by omega
    simp [List.getD, List.getElem?_append_left this]
end Go.Proofs.YtfjmnhmdipjenaaGreatDoor

namespace Go.Proofs.YtfjmnhmdipjenaaGreatDoor
open Go.RowKit
set_option maxRecDepth 100000
set_option linter.unusedVariables false
theorem Tryz.infoStr : (Tryz.prog.info? 9).map (fun i => (i.zero, i.size, i.bytes)) = some (some (.string ⟨#[]⟩), 1, 16) := by kernel_rfl
theorem itPos_of {w : World} {k : Nat} {s : ByteArray} {p : Nat} (h : w.heap[k]? = some (.stringIter s p)) : w.iterPos k = p := by simp [World.iterPos, h]
theorem OR.iterAt {w : World} {e : TypeId} {base n : Nat} {v : Value} {G : Nat → Value} (h : OR w e base v n G) {k : Nat} (hk : k < base) (s : ByteArray) (p : Nat) : OR (w.iterAt k s p) e base v n G := by
  rcases h with h | ⟨g, cap, f, rfl, hb, hn, hc, h1, h4⟩
  · exact .inl h
  · exact .inr ⟨g, cap, f, rfl, hb, hn, hc, h1.of_block (Lib.iterAt_other w k g s p (by omega)), h4⟩
theorem OR.low {w : World} {e : TypeId} {base base' n : Nat} {v : Value} {G : Nat → Value} (h : OR w e base v n G) (hb : base' ≤ base) : OR w e base' v n G := by
  rcases h with h | ⟨g, cap, f, rfl, h1, h2⟩
  · exact .inl h
  · exact .inr ⟨g, cap, f, rfl, Nat.le_trans hb h1, h2⟩
/-- One rune on. -/
theorem ws_next {s : ByteArray} {pos : Nat} (h : pos < s.size) : 1 ≤ (Utf8.decode s pos).2 ∧ pos + (Utf8.decode s pos).2 ≤ s.size ∧ (((Utf8.decode s pos).1 = 32 ∧ (Utf8.decode s pos).2 = 1 ∧ sb s pos = 32) ∨ ((Utf8.decode s pos).1 ≠ 32 ∧ ws s (pos + (Utf8.decode s pos).2) = ws s pos)) := by
  by_cases ha : (s[pos]'h).toNat < 128
  · have e := decode_ascii s pos h ha
    have e2 := sb_at h
    rw [e]
    refine ⟨Nat.le_refl _, by show pos + 1 ≤ _; omega, ?_⟩
    by_cases q : (s[pos]'h).toNat = 32
    · exact .inl ⟨q, rfl, by rw [← e2]; exact q⟩
    · refine .inr ⟨q, ws_skip 1 fun j hj => ?_⟩
      obtain rfl : j = 0 := by omega
      rw [Nat.add_zero, ← e2]
      exact q
  · have e := decode_high s pos h (by omega)
    refine ⟨e.2, ?_, .inr ⟨by omega, ws_skip _ fun j hj => ?_⟩⟩
    · rcases Nat.lt_or_ge 1 (Utf8.decode s pos).2 with q | q
      · have := (decode_skip s pos ((Utf8.decode s pos).2 - 1) (by omega) (by omega)).2
        omega
      · omega
    · rcases Nat.eq_zero_or_pos j with rfl | q
      · rw [Nat.add_zero, ← sb_at h]
        omega
      · have := (decode_skip s pos j q hj).1
        rw [sb_get]
        omega
set_option maxHeartbeats 1000000 in
theorem words_any (s : ByteArray) (w : World) (hs : s.size ≤ 1000000000) :
    Calls Tryz.prog 26 #[.string s] w fun e w' => ∃ v, e = .returned v ∧ OR w' 9 w.heap.size v (wordsL s).length (tx (wordsL s)) ∧ Below w.heap.size w w' := by
  have HS : Hid _ := hs
  go_enter Tryz.func26, Tryz.ntmps26
  go_wp2_with fail
  go_loopw [3, 4] (fun v f wr => ∃ pos : Nat, pos ≤ s.size ∧ f = .int .i64 ((ws s pos).1 : Int) ∧ wr.heap[w.heap.size]? = some (.stringIter s pos) ∧ Hid (OR wr 9 (w.heap.size + 1) v (ws s pos).2.length (tx (ws s pos).2) ∧ Below w.heap.size w wr)) (fun _ _ wr => s.size - wr.iterPos w.heap.size)
  case atStart => exact ⟨0, Nat.zero_le _, rfl, World.iter_heap w s 0, OR.nil _ _ _ _, (Below.refl _ _).alloc (Nat.le_refl _) _⟩
  case round =>
    obtain ⟨pos, hpos, rfl, hit, HO⟩ := hrel
    have hpos0 := itPos_of hit
    have hw1 := (ws_le s pos).1
    have hw2 := (ws_le s pos).2
    by_cases hp : pos < s.size
    · have hnx : ∀ ty, (Instr.next (.pointer (some ⟨w.heap.size, 0, none⟩)) true ty).run Tryz.prog wr = _ := fun ty => Lib.run_next_any_at wr w.heap.size s pos ty hit hp
      obtain ⟨n1, n2, n3⟩ := ws_next hp
      have hit2 := Lib.iterAt_heap wr w.heap.size s pos (pos + (Utf8.decode s pos).2) hit
      have HO2 : Hid (OR (wr.iterAt w.heap.size s (pos + (Utf8.decode s pos).2)) 9 (w.heap.size + 1) u3 (ws s pos).2.length (tx (ws s pos).2) ∧ Below w.heap.size w (wr.iterAt w.heap.size s (pos + (Utf8.decode s pos).2))) := ⟨HO.out.1.iterAt (by omega) s _, Lib.below_iterAt HO.out.2 (Nat.le_refl _) s _⟩
      obtain ⟨W1, hW1⟩ : ∃ W1, W1 = wr.iterAt w.heap.size s (pos + (Utf8.decode s pos).2) := ⟨_, rfl⟩
      rw [← hW1] at hnx hit2 HO2
      have hlt := lt_of_block hit2
      obtain ⟨r, hr⟩ : ∃ r, (Utf8.decode s pos).1 = r := ⟨_, rfl⟩
      obtain ⟨k, hk⟩ : ∃ k, (Utf8.decode s pos).2 = k := ⟨_, rfl⟩
      rw [hr] at hnx n3
      rw [hk] at n1 n2 n3 hit2
      clear hW1 hit HO
      rcases n3 with ⟨rfl, rfl, n4⟩ | ⟨n3, n4⟩
      · obtain ⟨fr, hf⟩ : ∃ fr, (ws s pos).1 = fr := ⟨_, rfl⟩
        rw [hf] at hw1
        rw [hf]
        by_cases hlf : fr < pos
        · have d : decide ((fr : Int) < (pos : Int)) = true := decide_eq_true (by omega)
          have HE : Hid (ws s (pos + 1) = (pos + 1, (ws s pos).2 ++ [s.extract fr pos])) := by
            show _ = _
            rw [ws, if_pos n4, hf, if_pos hlf]
          have HB1 : Hid _ := HO2.out.1.blk
          go_wp2_with (refine (id ?_ : wpList Tryz.prog _ _ (⟨some 24, _, _, _, _, _⟩ :: _) _ _); refine wpList_append_one rfl (.tmp 18) (.tmp 23) 58 rfl 9 (.string ⟨#[]⟩) 16 Tryz.underlying58 Tryz.infoStr rfl (by omega) (w.heap.size + 1) _ _ _ rfl (HO2.out.1.below (bc_al (bel_refl _))) _ _ rfl _ (by simp; rfl) rfl (by have := HS.out; omega) (by simp; omega) ?_)
          intro g2 cap2 w2 ho hg hor hlt2
          have I2 : Hid _ := ho
          have hit3 : w2.heap[w.heap.size]? = some (.stringIter s (pos + 1)) := by
            rw [hg.block w.heap.size (by simp; omega) (fun h => by have := HB1.out _ h.symm; omega), Below.heap_alloc _ _ _ hlt]
            exact hit2
          have B2 : Hid (Below w.heap.size w w2) := Below.grown (HO2.out.2.alloc (by omega) _) hg (by simp; omega) (fun j hj => by have := HB1.out _ hj; omega)
          clear ho hg hor d n4 hf
          go_wp2_with fail
          go_roundw
          case rel =>
            refine ⟨pos + 1, n2, by rw [HE.out]; go_num, hit3, ?_, B2.out⟩
            rw [HE.out]
            have := OR.congr I2.out (fun j hj => tx_snoc _ _ j hj)
            simpa using this
          case measure => rw [itPos_of hit3, hpos0]; omega
        · have d : decide ((fr : Int) < (pos : Int)) = false := decide_eq_false (by omega)
          have HE : Hid (ws s (pos + 1) = (pos + 1, (ws s pos).2)) := by
            show _ = _
            rw [ws, if_pos n4, hf, if_neg hlf]
          clear n4 hf
          go_wp2_with fail
          go_roundw
          case rel =>
            refine ⟨pos + 1, n2, by rw [HE.out]; go_num, hit2, ?_⟩
            rw [HE.out]
            exact HO2.out
          case measure => rw [itPos_of hit2, hpos0]; omega
      · have d : (((r : Nat) : Int) != 32) = true := by simp; omega
        have HN : Hid _ := n4
        clear n4 n3
        go_wp2_with fail
        go_roundw
        case rel =>
          refine ⟨pos + k, n2, by rw [HN.out], hit2, ?_⟩
          rw [HN.out]
          exact HO2.out
        case measure => rw [itPos_of hit2, hpos0]; omega
    · obtain rfl : pos = s.size := by omega
      have hnx : ∀ ty, (Instr.next (.pointer (some ⟨w.heap.size, 0, none⟩)) true ty).run Tryz.prog wr = _ := fun ty => Lib.run_next_end_at wr w.heap.size s s.size ty hit hp
      obtain ⟨fr, hf⟩ : ∃ fr, (ws s s.size).1 = fr := ⟨_, rfl⟩
      have hlt := lt_of_block hit
      rw [hf] at hw1
      rw [hf]
      by_cases hlf : fr < s.size
      · have d : decide ((fr : Int) < (s.size : Int)) = true := decide_eq_true (by omega)
        have HE : Hid (wordsL s = (ws s s.size).2 ++ [s.extract fr s.size]) := by
          show _ = _
          rw [wordsL, hf, if_pos hlf]
        have HB1 : Hid _ := HO.out.1.blk
        clear hf
        go_wp2_with (refine (id ?_ : wpList Tryz.prog _ _ (⟨some 36, _, _, _, _, _⟩ :: _) _ _); refine wpList_append_one rfl (.tmp 31) (.tmp 35) 58 rfl 9 (.string ⟨#[]⟩) 16 Tryz.underlying58 Tryz.infoStr rfl (by omega) (w.heap.size + 1) _ _ _ rfl (HO.out.1.below (bc_al (bel_refl _))) _ _ rfl _ (by simp; rfl) rfl (by have := HS.out; omega) (by simp; omega) ?_)
        intro g2 cap2 w2 ho hg hor hlt2
        have I2 : Hid _ := ho
        have B2 : Hid (Below w.heap.size w w2) := Below.grown (HO.out.2.alloc (by omega) _) hg (by simp; omega) (fun j hj => by have := HB1.out _ hj; omega)
        clear ho hg hor
        go_wp2_with fail
        go_ret
        refine ⟨_, rfl, ?_, B2.out⟩
        rw [HE.out]
        have := OR.congr I2.out (fun j hj => tx_snoc _ _ j hj)
        exact OR.low (by simpa using this) (by omega)
      · have d : decide ((fr : Int) < (s.size : Int)) = false := decide_eq_false (by omega)
        have HE : Hid (wordsL s = (ws s s.size).2) := by
          show _ = _
          rw [wordsL, hf, if_neg hlf]
        clear hf
        go_wp2_with fail
        go_ret
        refine ⟨_, rfl, ?_, HO.out.2⟩
        rw [HE.out]
        exact OR.low HO.out.1 (by omega)
end Go.Proofs.YtfjmnhmdipjenaaGreatDoor

namespace Go.Proofs
open Go.Shelf
def Tryz.lays156_ren : Go.Shelf.Ren := ⟨fun | 156 => 23 | 165 => 35 | 166 => 36 | 169 => 37 | 240 => 55 | 241 => 56 | 276 => 78 | 277 => 79 | n => n, fun | 31 => 58 | 9 => 9 | 3 => 3 | 4 => 4 | 0 => 0 | 20 => 20 | 72 => 86 | 76 => 90 | 70 => 83 | 37 => 84 | 75 => 89 | 127 => 111 | 164 => 135 | 5 => 5 | 80 => 92 | n => n, fun | n => n⟩
theorem Tryz.lays156 : Go.Proofs.Lays.n156 Tryz.prog Tryz.lays156_ren := {
  mixed := by kernel_rfl
  f156 := Tryz.func23.trans (congrArg some (by kernel_rfl))
  f165 := Tryz.func35.trans (congrArg some (by kernel_rfl))
  f166 := Tryz.func36.trans (congrArg some (by kernel_rfl))
  f169 := Tryz.func37.trans (congrArg some (by kernel_rfl))
  f240 := Tryz.func55.trans (congrArg some (by kernel_rfl))
  f241 := Tryz.func56.trans (congrArg some (by kernel_rfl))
  f276 := Tryz.func78.trans (congrArg some (by kernel_rfl))
  f277 := Tryz.func79.trans (congrArg some (by kernel_rfl))
  t0 := Tryz.underlying0
  a0 := Tryz.isAgg0
  z0 := Tryz.sizeOf0
  v0 := Tryz.zeroValue0
  t3 := Tryz.underlying3
  a3 := Tryz.isAgg3
  z3 := Tryz.sizeOf3
  v3 := Tryz.zeroValue3
  t4 := Tryz.underlying4
  a4 := Tryz.isAgg4
  z4 := Tryz.sizeOf4
  v4 := Tryz.zeroValue4
  t9 := Tryz.underlying9
  a9 := Tryz.isAgg9
  z9 := Tryz.sizeOf9
  v9 := Tryz.zeroValue9
  t20 := Tryz.underlying20
  a20 := Tryz.isAgg20
  z20 := Tryz.sizeOf20
  v20 := Tryz.zeroValue20
  t31 := Tryz.underlying58
  a31 := Tryz.isAgg58
  z31 := Tryz.sizeOf58
  v31 := Tryz.zeroValue58
  t37 := Tryz.underlying84
  a37 := Tryz.isAgg84
  z37 := Tryz.sizeOf84
  v37 := Tryz.zeroValue84
  t70 := Tryz.underlying83
  a70 := Tryz.isAgg83
  z70 := Tryz.sizeOf83
  v70 := Tryz.zeroValue83
  t72 := Tryz.underlying86
  a72 := Tryz.isAgg86
  z72 := Tryz.sizeOf86
  v72 := Tryz.zeroValue86
  t75 := Tryz.underlying89
  a75 := Tryz.isAgg89
  z75 := Tryz.sizeOf89
  v75 := Tryz.zeroValue89
  t76 := Tryz.underlying90
  a76 := Tryz.isAgg90
  z76 := Tryz.sizeOf90
  v76 := Tryz.zeroValue90
  t127 := Tryz.underlying111
  a127 := Tryz.isAgg111
  z127 := Tryz.sizeOf111
  v127 := Tryz.zeroValue111
  t164 := Tryz.underlying135
  a164 := Tryz.isAgg135
  z164 := Tryz.sizeOf135
  v164 := Tryz.zeroValue135 }
theorem Tryz.Builder_Extra_156 : Builder.Extra Tryz.prog Tryz.lays156_ren := {
  sizeBuilder := by kernel_rfl
  liesBuilder := by kernel_rfl
  t5 := Tryz.underlying5
  a5 := Tryz.isAgg5
  z5 := Tryz.sizeOf5
  v5 := Tryz.zeroValue5
  infoByte := by kernel_rfl
  cellsByte := by kernel_rfl
  sizeByte := by kernel_rfl
  neB5 := by decide }
open Go.RowKit in
theorem Tryz.strings_Join (bk o c : Nat) (xs : List ByteArray) (sep : ByteArray) (w : World) (hcells : ∀ (j : Nat) x, xs[j]? = some x → w.cell? ⟨bk, o + j, none⟩ = some (.string x)) (hbk : bk < w.heap.size) (hN : xs.length ≤ 140737488355328) (hcap : xs.length ≤ c) (hlen : (Lib.join (xs.map (·.data.toList)) sep.data.toList).length ≤ 140737488355328) :
    Calls Tryz.prog 23 #[.slice (some ⟨bk, o, none⟩) xs.length c, .string sep] w fun e w' => e = .returned (.string ⟨(Lib.join (xs.map (·.data.toList)) sep.data.toList).toArray⟩) ∧ Below w.heap.size w w' := Any.strings_Join Tryz.lays156 Tryz.Builder_Extra_156 bk o c xs sep w hcells hbk hN hcap hlen
def Tryz.laysM171_ren : Go.Shelf.Ren := ⟨fun | 171 => 34 | 243 => 54 | 246 => 77 | 283 => 103 | 284 => 104 | 285 => 105 | 286 => 106 | 129 => 64 | 317 => 128 | 318 => 129 | 319 => 130 | 320 => 131 | 337 => 143 | 338 => 107 | n => n, fun | 3 => 3 | 9 => 9 | 2 => 2 | 4 => 4 | 171 => 152 | 0 => 0 | 53 => 93 | 37 => 84 | 5 => 5 | 173 => 154 | 212 => 179 | 51 => 180 | 20 => 20 | 213 => 181 | 46 => 95 | 232 => 202 | 233 => 183 | n => n, fun | 17 => 3 | 18 => 9 | 19 => 4 | n => n⟩
theorem Tryz.laysM171 : Go.Proofs.LaysM.n171 Tryz.prog Tryz.laysM171_ren := {
  mixed := by kernel_rfl
  f129 := Tryz.func64.trans (congrArg some (by kernel_rfl))
  f171 := Tryz.func34.trans (congrArg some (by kernel_rfl))
  f243 := Tryz.func54.trans (congrArg some (by kernel_rfl))
  f246 := Tryz.func77.trans (congrArg some (by kernel_rfl))
  f283 := Tryz.func103.trans (congrArg some (by kernel_rfl))
  f284 := Tryz.func104.trans (congrArg some (by kernel_rfl))
  f285 := Tryz.func105.trans (congrArg some (by kernel_rfl))
  f286 := Tryz.func106.trans (congrArg some (by kernel_rfl))
  f317 := Tryz.func128.trans (congrArg some (by kernel_rfl))
  f318 := Tryz.func129.trans (congrArg some (by kernel_rfl))
  f319 := Tryz.func130.trans (congrArg some (by kernel_rfl))
  f320 := Tryz.func131.trans (congrArg some (by kernel_rfl))
  f337 := Tryz.func143.trans (congrArg some (by kernel_rfl))
  f338 := Tryz.func107.trans (congrArg some (by kernel_rfl))
  t0 := Tryz.underlying0
  a0 := Tryz.isAgg0
  z0 := Tryz.sizeOf0
  v0 := Tryz.zeroValue0
  t2 := Tryz.underlying2
  a2 := Tryz.isAgg2
  z2 := Tryz.sizeOf2
  v2 := Tryz.zeroValue2
  t3 := Tryz.underlying3
  a3 := Tryz.isAgg3
  z3 := Tryz.sizeOf3
  v3 := Tryz.zeroValue3
  t4 := Tryz.underlying4
  a4 := Tryz.isAgg4
  z4 := Tryz.sizeOf4
  v4 := Tryz.zeroValue4
  t5 := Tryz.underlying5
  a5 := Tryz.isAgg5
  z5 := Tryz.sizeOf5
  v5 := Tryz.zeroValue5
  t9 := Tryz.underlying9
  a9 := Tryz.isAgg9
  z9 := Tryz.sizeOf9
  v9 := Tryz.zeroValue9
  t20 := Tryz.underlying20
  a20 := Tryz.isAgg20
  z20 := Tryz.sizeOf20
  v20 := Tryz.zeroValue20
  t37 := Tryz.underlying84
  a37 := Tryz.isAgg84
  z37 := Tryz.sizeOf84
  v37 := Tryz.zeroValue84
  t46 := Tryz.underlying95
  a46 := Tryz.isAgg95
  z46 := Tryz.sizeOf95
  v46 := Tryz.zeroValue95
  t51 := Tryz.underlying180
  a51 := Tryz.isAgg180
  z51 := Tryz.sizeOf180
  v51 := Tryz.zeroValue180
  t53 := Tryz.underlying93
  a53 := Tryz.isAgg93
  z53 := Tryz.sizeOf93
  v53 := Tryz.zeroValue93
  t171 := Tryz.underlying152
  a171 := Tryz.isAgg152
  z171 := Tryz.sizeOf152
  v171 := Tryz.zeroValue152
  t173 := Tryz.underlying154
  a173 := Tryz.isAgg154
  z173 := Tryz.sizeOf154
  v173 := Tryz.zeroValue154
  t212 := Tryz.underlying179
  a212 := Tryz.isAgg179
  z212 := Tryz.sizeOf179
  v212 := Tryz.zeroValue179
  t213 := Tryz.underlying181
  a213 := Tryz.isAgg181
  z213 := Tryz.sizeOf181
  t232 := Tryz.underlying202
  a232 := Tryz.isAgg202
  z232 := Tryz.sizeOf202
  v232 := Tryz.zeroValue202
  t233 := Tryz.underlying183
  a233 := Tryz.isAgg183
  z233 := Tryz.sizeOf183
  v233 := Tryz.zeroValue183
  g17 := by kernel_rfl
  g18 := by kernel_rfl
  g19 := by kernel_rfl
  i0 := by kernel_rfl
  i2 := by kernel_rfl
  i3 := by kernel_rfl
  i4 := by kernel_rfl
  i5 := by kernel_rfl
  i9 := by kernel_rfl
  i20 := by kernel_rfl
  i37 := by kernel_rfl
  i46 := by kernel_rfl
  i51 := by kernel_rfl
  i53 := by kernel_rfl
  i171 := by kernel_rfl
  i173 := by kernel_rfl
  i212 := by kernel_rfl
  i232 := by kernel_rfl
  i233 := by kernel_rfl
  m17 := by kernel_rfl
  m18 := by kernel_rfl
  m19 := by kernel_rfl }
open Go.RowKit Go.Sort Go.Lib in
theorem Tryz.strconv_Itoa (n : Int) (h0 : -9223372036854775808 ≤ n) (h1 : n ≤ 9223372036854775807) (w : World) (htab : Lib.TabIs Tryz.prog w "internal/strconv.uint64pow10" .u64 Lib.pow10Tab) :
    Calls Tryz.prog 34 #[.int .i64 n] w fun e w' => e = .returned (.string ⟨(Lib.itoa n).toArray⟩) ∧ ∃ k os, w' = grow (w.drewN k) os := Any.strconv_Itoa Tryz.laysM171 n h0 h1 w htab
def Tryz.laysC172_ren : Go.Shelf.Ren := ⟨fun | 172 => 68 | 244 => 88 | 245 => 89 | 247 => 116 | 279 => 117 | 280 => 118 | 281 => 119 | 282 => 120 | 287 => 137 | 316 => 138 | 171 => 34 | 205 => 139 | 321 => 147 | 322 => 148 | 243 => 54 | 246 => 77 | 283 => 103 | 284 => 104 | 285 => 105 | 286 => 106 | 129 => 64 | 317 => 128 | 318 => 129 | 319 => 130 | 320 => 131 | 337 => 143 | 338 => 107 | n => n, fun | 9 => 9 | 3 => 3 | 75 => 89 | 76 => 90 | 4 => 4 | 5 => 5 | 167 => 165 | 37 => 84 | 0 => 0 | 85 => 166 | 2 => 2 | 168 => 168 | 53 => 93 | 175 => 187 | 46 => 95 | 210 => 191 | 127 => 111 | 145 => 201 | 143 => 199 | 21 => 21 | 171 => 152 | 173 => 154 | 212 => 179 | 51 => 180 | 20 => 20 | 213 => 181 | 232 => 202 | 233 => 183 | 80 => 92 | n => n, fun | 15 => 5 | 16 => 6 | 17 => 3 | 18 => 9 | 19 => 4 | n => n⟩
theorem Tryz.laysC172 : Go.Proofs.LaysC.n172 Tryz.prog Tryz.laysC172_ren := {
  mixed := by kernel_rfl
  f129 := Tryz.func64.trans (congrArg some (by kernel_rfl))
  f171 := Tryz.func34.trans (congrArg some (by kernel_rfl))
  f172 := Tryz.func68.trans (congrArg some (by kernel_rfl))
  f205 := Tryz.func139.trans (congrArg some (by kernel_rfl))
  f243 := Tryz.func54.trans (congrArg some (by kernel_rfl))
  f244 := Tryz.func88.trans (congrArg some (by kernel_rfl))
  f245 := Tryz.func89.trans (congrArg some (by kernel_rfl))
  f246 := Tryz.func77.trans (congrArg some (by kernel_rfl))
  f247 := Tryz.func116.trans (congrArg some (by kernel_rfl))
  f279 := Tryz.func117.trans (congrArg some (by kernel_rfl))
  f280 := Tryz.func118.trans (congrArg some (by kernel_rfl))
  f281 := Tryz.func119.trans (congrArg some (by kernel_rfl))
  f282 := Tryz.func120.trans (congrArg some (by kernel_rfl))
  f283 := Tryz.func103.trans (congrArg some (by kernel_rfl))
  f284 := Tryz.func104.trans (congrArg some (by kernel_rfl))
  f285 := Tryz.func105.trans (congrArg some (by kernel_rfl))
  f286 := Tryz.func106.trans (congrArg some (by kernel_rfl))
  f287 := Tryz.func137.trans (congrArg some (by kernel_rfl))
  f316 := Tryz.func138.trans (congrArg some (by kernel_rfl))
  f317 := Tryz.func128.trans (congrArg some (by kernel_rfl))
  f318 := Tryz.func129.trans (congrArg some (by kernel_rfl))
  f319 := Tryz.func130.trans (congrArg some (by kernel_rfl))
  f320 := Tryz.func131.trans (congrArg some (by kernel_rfl))
  f321 := Tryz.func147.trans (congrArg some (by kernel_rfl))
  f322 := Tryz.func148.trans (congrArg some (by kernel_rfl))
  f337 := Tryz.func143.trans (congrArg some (by kernel_rfl))
  f338 := Tryz.func107.trans (congrArg some (by kernel_rfl))
  t0 := Tryz.underlying0
  a0 := Tryz.isAgg0
  z0 := Tryz.sizeOf0
  v0 := Tryz.zeroValue0
  t2 := Tryz.underlying2
  a2 := Tryz.isAgg2
  z2 := Tryz.sizeOf2
  v2 := Tryz.zeroValue2
  t3 := Tryz.underlying3
  a3 := Tryz.isAgg3
  z3 := Tryz.sizeOf3
  v3 := Tryz.zeroValue3
  t4 := Tryz.underlying4
  a4 := Tryz.isAgg4
  z4 := Tryz.sizeOf4
  v4 := Tryz.zeroValue4
  t5 := Tryz.underlying5
  a5 := Tryz.isAgg5
  z5 := Tryz.sizeOf5
  v5 := Tryz.zeroValue5
  t9 := Tryz.underlying9
  a9 := Tryz.isAgg9
  z9 := Tryz.sizeOf9
  v9 := Tryz.zeroValue9
  t20 := Tryz.underlying20
  a20 := Tryz.isAgg20
  z20 := Tryz.sizeOf20
  v20 := Tryz.zeroValue20
  t21 := Tryz.underlying21
  a21 := Tryz.isAgg21
  z21 := Tryz.sizeOf21
  v21 := Tryz.zeroValue21
  t37 := Tryz.underlying84
  a37 := Tryz.isAgg84
  z37 := Tryz.sizeOf84
  v37 := Tryz.zeroValue84
  t46 := Tryz.underlying95
  a46 := Tryz.isAgg95
  z46 := Tryz.sizeOf95
  v46 := Tryz.zeroValue95
  t51 := Tryz.underlying180
  a51 := Tryz.isAgg180
  z51 := Tryz.sizeOf180
  v51 := Tryz.zeroValue180
  t53 := Tryz.underlying93
  a53 := Tryz.isAgg93
  z53 := Tryz.sizeOf93
  v53 := Tryz.zeroValue93
  t75 := Tryz.underlying89
  a75 := Tryz.isAgg89
  z75 := Tryz.sizeOf89
  v75 := Tryz.zeroValue89
  t76 := Tryz.underlying90
  a76 := Tryz.isAgg90
  z76 := Tryz.sizeOf90
  v76 := Tryz.zeroValue90
  t85 := Tryz.underlying166
  a85 := Tryz.isAgg166
  z85 := Tryz.sizeOf166
  v85 := Tryz.zeroValue166
  t127 := Tryz.underlying111
  a127 := Tryz.isAgg111
  z127 := Tryz.sizeOf111
  v127 := Tryz.zeroValue111
  t143 := Tryz.underlying199
  a143 := Tryz.isAgg199
  z143 := Tryz.sizeOf199
  v143 := Tryz.zeroValue199
  t145 := Tryz.underlying201
  a145 := Tryz.isAgg201
  z145 := Tryz.sizeOf201
  v145 := Tryz.zeroValue201
  t167 := Tryz.underlying165
  a167 := Tryz.isAgg165
  z167 := Tryz.sizeOf165
  v167 := Tryz.zeroValue165
  t168 := Tryz.underlying168
  a168 := Tryz.isAgg168
  z168 := Tryz.sizeOf168
  v168 := Tryz.zeroValue168
  t171 := Tryz.underlying152
  a171 := Tryz.isAgg152
  z171 := Tryz.sizeOf152
  v171 := Tryz.zeroValue152
  t173 := Tryz.underlying154
  a173 := Tryz.isAgg154
  z173 := Tryz.sizeOf154
  v173 := Tryz.zeroValue154
  t175 := Tryz.underlying187
  a175 := Tryz.isAgg187
  z175 := Tryz.sizeOf187
  v175 := Tryz.zeroValue187
  t210 := Tryz.underlying191
  a210 := Tryz.isAgg191
  z210 := Tryz.sizeOf191
  v210 := Tryz.zeroValue191
  t212 := Tryz.underlying179
  a212 := Tryz.isAgg179
  z212 := Tryz.sizeOf179
  v212 := Tryz.zeroValue179
  t213 := Tryz.underlying181
  a213 := Tryz.isAgg181
  z213 := Tryz.sizeOf181
  t232 := Tryz.underlying202
  a232 := Tryz.isAgg202
  z232 := Tryz.sizeOf202
  v232 := Tryz.zeroValue202
  t233 := Tryz.underlying183
  a233 := Tryz.isAgg183
  z233 := Tryz.sizeOf183
  v233 := Tryz.zeroValue183
  g15 := by kernel_rfl
  g16 := by kernel_rfl
  g17 := by kernel_rfl
  g18 := by kernel_rfl
  g19 := by kernel_rfl
  t80 := Tryz.underlying92
  a80 := Tryz.isAgg92
  z80 := Tryz.sizeOf92
  v80 := Tryz.zeroValue92
  i0 := by kernel_rfl
  i2 := by kernel_rfl
  i3 := by kernel_rfl
  i4 := by kernel_rfl
  i5 := by kernel_rfl
  i9 := by kernel_rfl
  i20 := by kernel_rfl
  i21 := by kernel_rfl
  i37 := by kernel_rfl
  i46 := by kernel_rfl
  i51 := by kernel_rfl
  i53 := by kernel_rfl
  i75 := by kernel_rfl
  i76 := by kernel_rfl
  i80 := by kernel_rfl
  i85 := by kernel_rfl
  i127 := by kernel_rfl
  i143 := by kernel_rfl
  i145 := by kernel_rfl
  i167 := by kernel_rfl
  i168 := by kernel_rfl
  i171 := by kernel_rfl
  i173 := by kernel_rfl
  i175 := by kernel_rfl
  i210 := by kernel_rfl
  i212 := by kernel_rfl
  i232 := by kernel_rfl
  i233 := by kernel_rfl
  m15 := by kernel_rfl
  m16 := by kernel_rfl
  m17 := by kernel_rfl
  m18 := by kernel_rfl
  m19 := by kernel_rfl
  c0 := by kernel_rfl
  c2 := by kernel_rfl
  c3 := by kernel_rfl
  c4 := by kernel_rfl
  c5 := by kernel_rfl
  c9 := by kernel_rfl
  c20 := by kernel_rfl
  c21 := by kernel_rfl
  c37 := by kernel_rfl
  c46 := by kernel_rfl
  c51 := by kernel_rfl
  c53 := by kernel_rfl
  c75 := by kernel_rfl
  c76 := by kernel_rfl
  c80 := by kernel_rfl
  c85 := by kernel_rfl
  c127 := by kernel_rfl
  c143 := by kernel_rfl
  c145 := by kernel_rfl
  c167 := by kernel_rfl
  c168 := by kernel_rfl
  c171 := by kernel_rfl
  c173 := by kernel_rfl
  c175 := by kernel_rfl
  c210 := by kernel_rfl
  c212 := by kernel_rfl
  c213 := by kernel_rfl
  c232 := by kernel_rfl
  c233 := by kernel_rfl }
open Go.RowKit in
theorem Tryz.strconv_Atoi_ok (s : ByteArray) (hmax : s.size ≤ 9223372036854775806) (v : Int) (h : Lib.atoiAll s.data.toList = .ok v) (w : World) :
    Calls Tryz.prog 68 #[.string s] w fun e w' => e = .returned (.tuple #[.int .i64 v, .nilIface]) ∧ (w' = w ∨ ∃ t, w' = Lib.bytesWorld w 5 t) := Any.strconv_Atoi_ok Tryz.laysC172 s hmax v h w
open Go.RowKit in
theorem Tryz.strconv_Atoi_syntax (s : ByteArray) (hlim : s.size ≤ 281474976710656) (h : Lib.atoiAll s.data.toList = .«syntax») (ev : Value) (w : World) (hv : w.cell? ⟨5, 0, none⟩ = some ev) (hev : ev = .nilIface ∨ ∃ te pe, ev = .iface te pe) :
    Calls Tryz.prog 68 #[.string s] w fun e w' => ∃ N, e = .returned (.tuple #[.int .i64 (0), .iface 168 (.pointer (some ⟨N, 0, none⟩))]) ∧ w.heap.size ≤ N ∧ w'.heap[N]? = some (.cells #[.string ⟨#[65, 116, 111, 105]⟩, .string s, ev] 191 (0, 0)) ∧ Below w.heap.size w w' := Any.strconv_Atoi_syntax Tryz.laysC172 s hlim h ev w hv hev
open Go.RowKit in
theorem Tryz.strconv_Atoi_range (s : ByteArray) (hlim : s.size ≤ 281474976710656) (h : Lib.atoiAll s.data.toList = .range) (ev : Value) (w : World) (hv : w.cell? ⟨6, 0, none⟩ = some ev) (hev : ev = .nilIface ∨ ∃ te pe, ev = .iface te pe) :
    Calls Tryz.prog 68 #[.string s] w fun e w' => ∃ N, e = .returned (.tuple #[.int .i64 (Lib.atoiSat s.data.toList), .iface 168 (.pointer (some ⟨N, 0, none⟩))]) ∧ w.heap.size ≤ N ∧ w'.heap[N]? = some (.cells #[.string ⟨#[65, 116, 111, 105]⟩, .string s, ev] 191 (0, 0)) ∧ Below w.heap.size w w' := Any.strconv_Atoi_range Tryz.laysC172 s hlim h ev w hv hev
def Tryz.lays101_ren : Go.Shelf.Ren := ⟨fun | 101 => 69 | 208 => 90 | 206 => 121 | n => n, fun | 9 => 9 | 4 => 4 | 3 => 3 | n => n, fun | n => n⟩
theorem Tryz.lays101 : Go.Proofs.Lays.n101 Tryz.prog Tryz.lays101_ren := {
  mixed := by kernel_rfl
  f101 := Tryz.func69.trans (congrArg some (by kernel_rfl))
  f206 := Tryz.func121.trans (congrArg some (by kernel_rfl))
  f208 := Tryz.func90.trans (congrArg some (by kernel_rfl))
  t3 := Tryz.underlying3
  a3 := Tryz.isAgg3
  z3 := Tryz.sizeOf3
  v3 := Tryz.zeroValue3
  t4 := Tryz.underlying4
  a4 := Tryz.isAgg4
  z4 := Tryz.sizeOf4
  v4 := Tryz.zeroValue4
  t9 := Tryz.underlying9
  a9 := Tryz.isAgg9
  z9 := Tryz.sizeOf9
  v9 := Tryz.zeroValue9 }
open Go.RowKit Go.Lib in
theorem Tryz.strings_TrimPrefix (s p : ByteArray) (w : World) :
    Calls Tryz.prog 69 #[.string s, .string p] w fun e w' => e = .returned (.string ⟨(Lib.trimPrefix s.data.toList p.data.toList).toArray⟩) ∧ w' = w := Any.strings_TrimPrefix Tryz.lays101 s p w
def Tryz.lays109_ren : Go.Shelf.Ren := ⟨fun | 109 => 67 | n => n, fun | 31 => 58 | 9 => 9 | 3 => 3 | 0 => 0 | 4 => 4 | n => n, fun | n => n⟩
theorem Tryz.lays109 : Go.Proofs.Lays.n109 Tryz.prog Tryz.lays109_ren := {
  mixed := by kernel_rfl
  f109 := Tryz.func67.trans (congrArg some (by kernel_rfl))
  t0 := Tryz.underlying0
  a0 := Tryz.isAgg0
  z0 := Tryz.sizeOf0
  v0 := Tryz.zeroValue0
  t3 := Tryz.underlying3
  a3 := Tryz.isAgg3
  z3 := Tryz.sizeOf3
  v3 := Tryz.zeroValue3
  t4 := Tryz.underlying4
  a4 := Tryz.isAgg4
  z4 := Tryz.sizeOf4
  v4 := Tryz.zeroValue4
  t9 := Tryz.underlying9
  a9 := Tryz.isAgg9
  z9 := Tryz.sizeOf9
  v9 := Tryz.zeroValue9
  t31 := Tryz.underlying58
  a31 := Tryz.isAgg58
  z31 := Tryz.sizeOf58
  v31 := Tryz.zeroValue58 }
open Go.Lib in
theorem Tryz.slices_Index_string (b off n c : Nat) (zs : List ByteArray) (x : ByteArray) (w : World) (hz : n ≤ zs.length) (hbig : n ≤ 9223372036854775807) (hc : ∀ j, j < zs.length → w.cell? ⟨b, off + j, none⟩ = some (.string (zs.getD j ByteArray.empty))) :
    Calls Tryz.prog 67 #[.slice (some ⟨b, off, none⟩) n c, .string x] w fun e w' => e = .returned (.int .i64 (Lib.idxOfS (zs.take n) x)) ∧ w' = w := Any.slices_Index_string Tryz.lays109 b off n c zs x w hz hbig hc
end Go.Proofs

namespace Go.Proofs.YtfjmnhmdipjenaaGreatDoor
open Go.RowKit
set_option maxRecDepth 100000
set_option linter.unusedVariables false
theorem bc_grow (w : World) (k : Nat) (os : Array Obj) : Below w.heap.size w (Go.Sort.grow (w.drewN k) os) := ⟨rfl, rfl, rfl, by show _ ≤ (w.heap ++ os).size; simp, fun i hi => by show (w.heap ++ os)[i]? = _; rw [Array.getElem?_append_left hi]⟩
/-- A number in digits. -/
def itT (x : Int) : ByteArray := ⟨(Lib.itoa x).toArray⟩
theorem itoa_any (x : Int) (h0 : -9223372036854775808 ≤ x) (h1 : x ≤ 9223372036854775807) (w : World) (ht : Lib.TabIs Tryz.prog w "internal/strconv.uint64pow10" .u64 Lib.pow10Tab) : Calls Tryz.prog 34 #[.int .i64 x] w fun e w' => e = .returned (.string (itT x)) ∧ Below w.heap.size w w' := by
  refine (Tryz.strconv_Itoa x h0 h1 w ht).mono ?_
  rintro e w' ⟨rfl, k, os, rfl⟩
  exact ⟨rfl, bc_grow w k os⟩
set_option maxHeartbeats 1000000 in
theorem digits_any (b o n c : Nat) (X : Nat → Int) (w : World) (hn : n ≤ 1000) (hc : n ≤ c) (hx : ∀ i, i < n → w.cell? ⟨b, o + i, none⟩ = some (.int .i64 (X i))) (hb : ∀ i, i < n → -9223372036854775808 ≤ X i ∧ X i ≤ 9223372036854775807) (ht : Lib.TabIs Tryz.prog w "internal/strconv.uint64pow10" .u64 Lib.pow10Tab) :
    Calls Tryz.prog 22 #[.slice (some ⟨b, o, none⟩) n c] w fun e w' => ∃ v, e = .returned v ∧ OR w' 9 w.heap.size v n (fun i => .string (itT (X i))) ∧ Below w.heap.size w w' := by
  have HX : Hid _ := hx
  have HB : Hid _ := hb
  have HT : Hid _ := Lib.tabBelow_of_tabIs ht
  clear hx hb ht
  go_enter Tryz.func22, Tryz.ntmps22
  go_wp2_with fail
  go_loopw [3, 8] (fun v t wr => ∃ k : Nat, k ≤ n ∧ t = .int .i64 (k : Int) ∧ Hid (OR wr 9 w.heap.size v k (fun i => .string (itT (X i))) ∧ Below w.heap.size w wr)) (fun _ t _ => n - (intOf t).toNat)
  case atStart => exact ⟨0, by omega, rfl, OR.nil _ _ _ _, bel_refl _⟩
  case round =>
    obtain ⟨k, hk, rfl, HO⟩ := hrel
    by_cases e : k = n
    · rw [e] at HO
      rw [e]
      clear e hk k
      go_wp2_with fail
      go_ret
      exact ⟨_, rfl, HO.out⟩
    · have lk : k < n := by omega
      have x0 := bc_cell HO.out.2 (HX.out k lk)
      have hsz := HO.out.2.size
      clear e
      go_wp2_with fail
      refine (itoa_any (X k) (HB.out k lk).1 (HB.out k lk).2 _ (HT.out _ HO.out.2)).mono ?_
      rintro e w3 ⟨rfl, hb⟩
      have H3 : Hid (OR w3 9 w.heap.size u3 k (fun i => .string (itT (X i))) ∧ Below w.heap.size w w3) := ⟨HO.out.1.below hb, bc_go HO.out.2 hb⟩
      have HB1 : Hid _ := HO.out.1.blk
      have hsz3 := H3.out.2.size
      clear hb HO x0
      go_wp2_with (refine (id ?_ : wpList Tryz.prog _ _ (⟨some 16, _, _, _, _, _⟩ :: _) _ _); refine wpList_append_one rfl (.tmp 12) (.tmp 15) 58 rfl 9 (.string ⟨#[]⟩) 16 Tryz.underlying58 Tryz.infoStr rfl (by omega) w.heap.size _ _ _ rfl (H3.out.1.below (bc_al (bel_refl _))) _ _ rfl _ (by simp; rfl) rfl (by omega) (by simp; omega) ?_)
      intro g2 cap2 w2 ho hg hor hlt2
      have I2 : Hid _ := ho
      have B2 : Hid (Below w.heap.size w w2) := Below.grown (H3.out.2.alloc (by omega) _) hg (by simp; omega) (fun j hj => HB1.out _ hj)
      clear ho hg hor
      go_wp2_with fail
      go_roundw
      case rel =>
        refine ⟨k + 1, by omega, by go_num, OR.congr I2.out fun j hj => ?_, B2.out⟩
        by_cases e : j = k
        · rw [if_pos e, e]
        · rw [if_neg e]
      case measure => simp [intOf]; omega
end Go.Proofs.YtfjmnhmdipjenaaGreatDoor

