/- Contracts of the program's functions, part 1: own work, joined in build order. -/
import Derived.Test.YtfkkomppfghagaaGreatDoorRows
import Derived.WalkKit
import Derived.WalkSpells
import Derived.WalkLawsBesides
import Derived.Deep.OwnRows
import Derived.Deep.QuietTactic
import Derived.BigQuiet
import Derived.Laws.MathBits
import Derived.Laws.Externs
import Derived.Shelf.Spec.BitsCarry
namespace Go.Proofs.YtfkkomppfghagaaGreatDoor
set_option linter.unusedVariables false
def sm1 (M : Nat → Nat) : Nat → Nat
  | 0 => 0
  | n + 1 => sm1 M n + M n
def sm2 (M : Nat → Nat) : Nat → Nat
  | 0 => 0
  | n + 1 => sm2 M n + M n * M n
theorem sm1_congr {M M' : Nat → Nat} : ∀ n, (∀ i, i < n → M i = M' i) → sm1 M n = sm1 M' n
  | 0, _ => rfl
  | n + 1, h => by rw [sm1, sm1, sm1_congr n fun i hi => h i (by omega), h n (by omega)]
theorem sm2_congr {M M' : Nat → Nat} : ∀ n, (∀ i, i < n → M i = M' i) → sm2 M n = sm2 M' n
  | 0, _ => rfl
  | n + 1, h => by rw [sm2, sm2, sm2_congr n fun i hi => h i (by omega), h n (by omega)]
theorem sm1_mul (M : Nat → Nat) (k : Nat) : ∀ n, sm1 (fun i => M i * k) n = sm1 M n * k
  | 0 => by simp [sm1]
  | n + 1 => by rw [sm1, sm1, sm1_mul M k n]; grind
theorem sm2_mul (M : Nat → Nat) (k : Nat) : ∀ n, sm2 (fun i => M i * k) n = sm2 M n * (k * k)
  | 0 => by simp [sm2]
  | n + 1 => by rw [sm2, sm2, sm2_mul M k n]; grind
def far (M : Nat → Nat) (x : Int) : Nat → Int
  | 0 => 0
  | n + 1 => far M x n + ((M n : Int) - x) * ((M n : Int) - x)
theorem sq_nn (a : Int) : 0 ≤ a * a := by
  rcases Int.le_total 0 a with h | h
  · exact Int.mul_nonneg h h
  exact Int.mul_nonneg_of_nonpos_of_nonpos h h
theorem far_nn (M : Nat → Nat) (x : Int) : ∀ n, 0 ≤ far M x n
  | 0 => Int.le_refl _
  | n + 1 => Int.add_nonneg (far_nn M x n) (sq_nn _)
theorem far_eq (M : Nat → Nat) (x : Int) : ∀ n, far M x n = (sm2 M n : Int) - 2 * (sm1 M n : Int) * x + (n : Int) * (x * x)
  | 0 => by simp [far, sm1, sm2]
  | n + 1 => by
    rw [far, far_eq M x n, sm1, sm2]
    push_cast
    grind
def gapQ (M : Nat → Nat) (n : Nat) : Int := (n : Int) * (sm2 M n : Int) - (sm1 M n : Int) * (sm1 M n : Int)
theorem gapQ_succ (M : Nat → Nat) (n : Nat) : gapQ M (n + 1) = gapQ M n + far M (M n : Int) n := by
  rw [far_eq]
  unfold gapQ
  rw [sm1, sm2]
  push_cast
  grind
theorem gapQ_nn (M : Nat → Nat) : ∀ n, 0 ≤ gapQ M n
  | 0 => by simp [gapQ, sm1]
  | n + 1 => by rw [gapQ_succ]; exact Int.add_nonneg (gapQ_nn M n) (far_nn _ _ _)
theorem sq_le (M : Nat → Nat) (n : Nat) : sm1 M n * sm1 M n ≤ n * sm2 M n := by
  have h := gapQ_nn M n
  unfold gapQ at h
  have : ((sm1 M n * sm1 M n : Nat) : Int) ≤ ((n * sm2 M n : Nat) : Int) := by push_cast; omega
  exact_mod_cast this
def pr1 (D : Nat → Nat) : Nat → Nat
  | 0 => 1
  | n + 1 => pr1 D n * D n
def nu1 (X D : Nat → Nat) : Nat → Nat
  | 0 => 0
  | n + 1 => nu1 X D n * D n + X n * pr1 D n
def nu2 (X D : Nat → Nat) : Nat → Nat
  | 0 => 0
  | n + 1 => nu2 X D n * (D n * D n) + X n * X n * (pr1 D n * pr1 D n)
theorem pr1_pos {D : Nat → Nat} : ∀ n, (∀ i, i < n → 0 < D i) → 0 < pr1 D n
  | 0, _ => by simp [pr1]
  | n + 1, h => Nat.mul_pos (pr1_pos n fun i hi => h i (by omega)) (h n (by omega))
def whl (X D : Nat → Nat) (E : Nat) : Nat → Nat := fun i => X i * (E / D i)
theorem pr1_dvd (D : Nat → Nat) : ∀ n i, i < n → D i ∣ pr1 D n
  | n + 1, i, hi => by
    rw [pr1]
    rcases Nat.lt_or_ge i n with c | c
    · exact Nat.dvd_trans (pr1_dvd D n i c) (Nat.dvd_mul_right _ _)
    obtain rfl : i = n := by omega
    exact Nat.dvd_mul_left _ _
theorem nu_whl (X D : Nat → Nat) : ∀ n, (∀ i, i < n → 0 < D i) → nu1 X D n = sm1 (whl X D (pr1 D n)) n ∧ nu2 X D n = sm2 (whl X D (pr1 D n)) n
  | 0, _ => ⟨rfl, rfl⟩
  | n + 1, h => by
    obtain ⟨h1, h2⟩ := nu_whl X D n fun i hi => h i (by omega)
    have hn := h n (by omega)
    have e : ∀ i, i < n → whl X D (pr1 D (n + 1)) i = whl X D (pr1 D n) i * D n := fun i hi => by
      obtain ⟨c, hc⟩ := pr1_dvd D n i hi
      have hi' := h i (by omega)
      unfold whl
      rw [pr1, hc, Nat.mul_assoc, Nat.mul_div_cancel_left _ hi', Nat.mul_div_cancel_left _ hi', Nat.mul_assoc]
    have e2 : whl X D (pr1 D (n + 1)) n = X n * pr1 D n := by
      unfold whl
      rw [pr1, Nat.mul_div_cancel _ hn]
    constructor
    · rw [nu1, sm1, sm1_congr n e, sm1_mul, e2, h1]
    rw [nu2, sm2, sm2_congr n e, sm2_mul, e2, h2]
    grind
end Go.Proofs.YtfkkomppfghagaaGreatDoor
namespace Go.Proofs.YtfkkomppfghagaaGreatDoor
open Go.RowKit
def P (n : Nat) : Nat := 18446744073709551616 ^ n
theorem P_zero : P 0 = 1 := rfl
theorem P_succ (n : Nat) : P (n + 1) = P n * 18446744073709551616 := Nat.pow_succ ..
theorem P_one : P 1 = 18446744073709551616 := by rw [P_succ, P_zero, Nat.one_mul]
theorem P_add (a b : Nat) : P (a + b) = P a * P b := Nat.pow_add ..
theorem P_pos (n : Nat) : 0 < P n := Nat.pow_pos (by decide)
theorem P_le {a b : Nat} (h : a ≤ b) : P a ≤ P b := Nat.pow_le_pow_right (by decide) h
theorem P_lt {a b : Nat} (h : a < b) : P a < P b := Nat.pow_lt_pow_right (by decide) h
def V (F : Nat → Nat) : Nat → Nat
  | 0 => 0
  | n + 1 => V F n + F n * P n
theorem V_zero (F : Nat → Nat) : V F 0 = 0 := rfl
theorem V_succ (F : Nat → Nat) (n : Nat) : V F (n + 1) = V F n + F n * P n := rfl
theorem V_congr {F G : Nat → Nat} : ∀ {n : Nat}, (∀ i, i < n → F i = G i) → V F n = V G n
  | 0, _ => rfl
  | n + 1, h => by rw [V_succ, V_succ, V_congr fun i hi => h i (by omega), h n (by omega)]
def Ok (F : Nat → Nat) (n : Nat) : Prop := ∀ i, i < n → F i < 18446744073709551616
theorem Ok.mono {F : Nat → Nat} {m n : Nat} (h : Ok F n) (hm : m ≤ n) : Ok F m := fun i hi => h i (by omega)
theorem V_lt {F : Nat → Nat} : ∀ {n : Nat}, Ok F n → V F n < P n
  | 0, _ => by rw [V_zero, P_zero]; omega
  | n + 1, h => by
    have h1 := V_lt (h.mono (Nat.le_succ n))
    have h2 := h n (by omega)
    have h3 : (F n + 1) * P n ≤ 18446744073709551616 * P n := Nat.mul_le_mul_right _ (by omega)
    rw [V_succ, P_succ, Nat.mul_comm (P n)]
    rw [Nat.add_mul] at h3
    omega
theorem V_split (F : Nat → Nat) (m : Nat) : ∀ n, V F (m + n) = V F m + P m * V (fun i => F (m + i)) n
  | 0 => by simp [V_zero]
  | n + 1 => by
    rw [← Nat.add_assoc, V_succ, V_split F m n, V_succ, P_add, Nat.mul_add, Nat.add_assoc, Nat.mul_left_comm]
theorem V_ge (F : Nat → Nat) (n : Nat) (h : 0 < n) : F (n - 1) * P (n - 1) ≤ V F n := by
  obtain ⟨m, rfl⟩ : ∃ m, n = m + 1 := ⟨n - 1, by omega⟩
  rw [V_succ, Nat.add_sub_cancel]
  omega
theorem V_const0 : ∀ n, V (fun _ => 0) n = 0
  | 0 => rfl
  | n + 1 => by rw [V_succ, V_const0 n, Nat.zero_mul]
theorem V_zeros {F : Nat → Nat} {n : Nat} (h : ∀ i, i < n → F i = 0) : V F n = 0 := by
  rw [V_congr (G := fun _ => 0) h, V_const0]
theorem V_top {F : Nat → Nat} {m n : Nat} (hm : m ≤ n) (h : ∀ i, m ≤ i → i < n → F i = 0) : V F n = V F m := by
  obtain ⟨k, rfl⟩ : ∃ k, n = m + k := ⟨n - m, by omega⟩
  rw [V_split, V_zeros fun i hi => h (m + i) (by omega) (by omega), Nat.mul_zero, Nat.add_zero]
def lim : Nat := 4294967296
theorem le_lim {n : Nat} (h : n ≤ lim) : n ≤ 4294967296 := h
structure Fits (x : Nat) : Prop where
  lt : x < P lim
theorem V_long {F : Nat → Nat} {n m : Nat} (hm : m < n) (h1 : F (n - 1) ≠ 0) : P m ≤ V F n := by
  have h2 : P m ≤ P (n - 1) := P_le (by omega)
  have h3 := V_ge F n (by omega)
  have h4 : 1 * P (n - 1) ≤ F (n - 1) * P (n - 1) := Nat.mul_le_mul_right _ (by omega)
  omega
theorem len_le_of {F : Nat → Nat} {n m : Nat} (h : V F n < P m) (h1 : 0 < n → F (n - 1) ≠ 0) : n ≤ m := by
  rcases Nat.lt_or_ge m n with h' | h'
  · exact absurd h (Nat.not_lt.2 (V_long h' (h1 (by omega))))
  exact h'
theorem fits_len {F : Nat → Nat} {n : Nat} (h : Fits (V F n)) (h1 : 0 < n → F (n - 1) ≠ 0) : n ≤ 4294967296 := le_lim (len_le_of h.lt h1)
def Words (w : World) (b o n : Nat) (F : Nat → Nat) : Prop := ∀ i, i < n → w.cell? ⟨b, o + i, none⟩ = some (.int .u64 (F i : Nat))
def Sl (w : World) (a : Option Addr) (n cap : Nat) (F : Nat → Nat) : Prop :=
  n ≤ cap ∧ cap ≤ 9223372036854775807 ∧ Ok F n ∧ (n = 0 ∨ ∃ b o, a = some ⟨b, o, none⟩ ∧ Words w b o n F)
def IsNat (w : World) (v : Value) (x : Nat) : Prop :=
  ∃ a n cap F, v = .agg #[.slice a n cap] ∧ Sl w a n cap F ∧ (n = 0 → a = none ∧ cap = 0) ∧ (0 < n → F (n - 1) ≠ 0) ∧ V F n = x
theorem Words.mono {w w' : World} {b o n : Nat} {F : Nat → Nat} (h : Words w b o n F) (hb : Below w.heap.size w w') : Words w' b o n F :=
  fun i hi => cell_later hb (h i hi)
theorem Sl.mono {w w' : World} {a : Option Addr} {n cap : Nat} {F : Nat → Nat} (h : Sl w a n cap F) (hb : Below w.heap.size w w') : Sl w' a n cap F := by
  obtain ⟨h1, h2, h3, h4⟩ := h
  refine ⟨h1, h2, h3, h4.imp id ?_⟩
  rintro ⟨b, o, ha, hw⟩
  exact ⟨b, o, ha, hw.mono hb⟩
theorem IsNat.mono {w w' : World} {v : Value} {x : Nat} (h : IsNat w v x) (hb : Below w.heap.size w w') : IsNat w' v x := by
  obtain ⟨a, n, cap, F, rfl, hs, h0, h1, hv⟩ := h
  exact ⟨a, n, cap, F, rfl, hs.mono hb, h0, h1, hv⟩
theorem isNat_zero (w : World) : IsNat w (.agg #[.slice none 0 0]) 0 :=
  ⟨none, 0, 0, fun _ => 0, rfl, ⟨Nat.le_refl _, by omega, fun i hi => absurd hi (by omega), .inl rfl⟩, fun _ => ⟨rfl, rfl⟩, fun h => absurd h (by omega), rfl⟩
theorem bel_refl (w : World) : Below w.heap.size w w := Below.refl _ _
theorem bel_trans {a b c : World} (h : Below a.heap.size a b) (k : Below b.heap.size b c) : Below a.heap.size a c := h.trans (k.mono h.size)
theorem ret_int {k : IntKind} {a b : Int} (h : a = b) : Ending.returned (.int k a) = .returned (.int k b) := by rw [h]
theorem Tryz.info22 : (Tryz.prog.info? 82).map (fun i => (i.zero, i.size, i.bytes)) = some (some (.int .u64 0), 1, 8) := by kernel_rfl
set_option maxRecDepth 100000
theorem Sl.at {w : World} {a : Option Addr} {n cap : Nat} {F : Nat → Nat} (h : Sl w a n cap F) (i : Nat) (hi : i < n) : ∃ b o, a = some ⟨b, o, none⟩ ∧ Words w b o n F := by
  rcases h.2.2.2 with h0 | h0
  · omega
  exact h0
theorem isNat_cut {w : World} {b o n cap k : Nat} {F : Nat → Nat} (h : Sl w (some ⟨b, o, none⟩) n cap F) (hk : k ≤ n) (h0 : 0 < k) (hz : ∀ i, k ≤ i → i < n → F i = 0) (hf : F (k - 1) ≠ 0) :
    IsNat w (.agg #[.slice (some ⟨b, o, none⟩) k cap]) (V F n) := by
  obtain ⟨b', o', e, hw⟩ := h.at 0 (by omega)
  cases e
  refine ⟨_, k, cap, F, rfl, ⟨by have := h.1; omega, h.2.1, h.2.2.1.mono hk, .inr ⟨b, o, rfl, fun i hi => hw i (by omega)⟩⟩, fun e => absurd e (by omega), fun _ => hf, (V_top hk hz).symm⟩
set_option maxHeartbeats 400000 in
theorem trimmed_any (a : Option Addr) (n cap : Nat) (F : Nat → Nat) (w : World) (h : Sl w a n cap F) (hn : n ≤ 1099511627776) :
    Calls Tryz.prog 58 #[.slice a n cap] w fun e w' => ∃ v, e = .returned v ∧ IsNat w' v (V F n) ∧ Below w.heap.size w w' := by
  go_enter Tryz.func58, Tryz.ntmps58
  go_wp2
  go_loop [3] (fun t => ∃ k : Nat, k ≤ n ∧ t = .int .i64 k ∧ (∀ i, k ≤ i → i < n → F i = 0)) (fun t => (intOf t).toNat)
  case atStart => exact ⟨n, Nat.le_refl _, rfl, fun i h1 h2 => absurd h1 (by omega)⟩
  case round =>
    obtain ⟨k, hk, rfl, hz⟩ := hrel
    by_cases h0 : k = 0
    · subst h0
      have HZ : Hid _ := hz
      clear hz
      go_wp2
      refine bodyPost_ret (v := .agg #[.slice none 0 0]) (by simp [results, Tryz.results58, go_sem]) rfl ⟨_, rfl, ?_, ?_⟩
      · rw [V_zeros fun i hi => HZ.out i (Nat.zero_le _) hi]; exact isNat_zero _
      exact (Below.refl _ _).alloc (Nat.le_refl _) _
    obtain ⟨b, o, rfl, hw⟩ := h.at (k - 1) (by omega)
    have hc : (w.alloc (.cells #[.slice none 0 0] 45)).cell? ⟨b, o + (k - 1), none⟩ = some (.int .u64 (F (k - 1) : Nat)) := cell_later ((Below.refl _ _).alloc (Nat.le_refl _) _) (hw (k - 1) (by omega))
    have h0' : (0 : Int) < k := by omega
    have HZ : Hid _ := hz
    have HW : Hid _ := hw
    have HH : Hid _ := h
    clear hz hw h
    by_cases hf : F (k - 1) = 0
    · rw [hf] at hc
      go_wp2
      go_round
      case rel =>
        refine ⟨k - 1, by omega, by go_num, fun i h1 h2 => ?_⟩
        by_cases e : i = k - 1
        · rw [e, hf]
        exact HZ.out i (by omega) h2
      case measure => simp [intOf]; omega
    have hne : (((F (k - 1) : Nat) : Int) == 0) = false := by simp; omega
    have hk0 : ((k : Int) == 0) = false := by simp; omega
    have hcap : (k : Int) ≤ cap := by have := HH.out.1; omega
    go_wp2
    refine bodyPost_ret (v := .agg #[.slice (some ⟨b, o, none⟩) k cap]) (by simp [results, Tryz.results58, go_sem]) rfl ⟨_, rfl, ?_, ?_⟩
    · exact (isNat_cut HH.out hk (by omega) HZ.out hf).mono ((Below.refl _ _).alloc (Nat.le_refl _) _)
    exact (Below.refl _ _).alloc (Nat.le_refl _) _
theorem sl_one (w : World) (n g : Nat) (hn : n < 18446744073709551616) (hg : g = w.heap.size) (t : TypeId) : Sl (w.alloc (.cells #[.int .u64 (n : Int)] t)) (some ⟨g, 0, none⟩) 1 1 (fun _ => n) :=
  ⟨Nat.le_refl _, by omega, fun _ _ => hn, .inr ⟨g, 0, rfl, fun i hi => by
    obtain rfl : i = 0 := by omega
    subst hg
    simp⟩⟩
theorem Sl.setCell {w : World} {a : Option Addr} {n cap : Nat} {F : Nat → Nat} (h : Sl w a n cap F) {p : Addr} (hp : ∀ k q, w.cell? p ≠ some (.int k q)) (u : Value) : Sl (w.setCell p u) a n cap F := by
  obtain ⟨h1, h2, h3, h4⟩ := h
  refine ⟨h1, h2, h3, h4.imp id ?_⟩
  rintro ⟨b, o, ha, hw⟩
  refine ⟨b, o, ha, fun i hi => ?_⟩
  have hne : (⟨b, o + i, none⟩ : Addr) ≠ p := fun e => hp _ _ (e ▸ hw i hi)
  exact (World.cell?_setCell_other (h := hne.symm) ..).trans (hw i hi)
theorem IsNat.setCell {w : World} {v : Value} {x : Nat} (h : IsNat w v x) {p : Addr} (hp : ∀ k q, w.cell? p ≠ some (.int k q)) (u : Value) : IsNat (w.setCell p u) v x := by
  obtain ⟨a, n, cap, F, rfl, hs, h0, h1, hv⟩ := h
  exact ⟨a, n, cap, F, rfl, hs.setCell hp u, h0, h1, hv⟩
theorem no_int_slice {w : World} {p : Addr} {a : Option Addr} {n c : Nat} (h : w.cell? p = some (.slice a n c)) : ∀ k q, w.cell? p ≠ some (.int k q) := fun k q e => by rw [h] at e; cases e
set_option maxHeartbeats 400000 in
theorem of_any (n : Nat) (w : World) (hn : n < 18446744073709551616) :
    Calls Tryz.prog 27 #[.int .u64 (n : Int)] w fun e w' => ∃ v, e = .returned v ∧ IsNat w' v n ∧ Below w.heap.size w w' := by
  go_enter Tryz.func27, Tryz.ntmps27
  go_wp2_with fail
  refine (trimmed_any _ 1 1 (fun _ => n) _ (sl_one _ n _ hn (by simp) _) (by omega)).mono ?_
  rintro e w1 ⟨v, rfl, hv, hb⟩
  have hc : w1.cell? ⟨w.heap.size, 0, none⟩ = some (.slice none 0 0) := cell_later hb (by simp)
  have hf : w1.frozen? ⟨w.heap.size, 0, none⟩ = false := (hb.frozen (by simp; omega)).trans (by simp)
  have HBB : Hid (Below w.heap.size w w1) := ((((Below.refl _ _).alloc (Nat.le_refl _) _).alloc (by simp) _)).trans (hb.mono (by simp; omega))
  obtain ⟨a', n', cap', F', rfl, HF⟩ := id hv
  have HV : Hid _ := hv
  clear hb hv HF
  go_wp2_with fail
  refine bodyPost_ret (v := .agg #[.slice a' n' cap']) (by simp [results, Tryz.results27, go_sem, hc]) rfl ⟨_, rfl, ?_, ?_⟩
  · have hx : IsNat w1 _ _ := HV.out
    rw [V_succ, V_zero, P_zero, Nat.zero_add, Nat.mul_one] at hx
    exact hx.setCell (no_int_slice hc) _
  exact HBB.out.setCell (Nat.le_refl _) _
theorem wrap64_small (n : Int) (h0 : 0 ≤ n) (h : n ≤ 1000) : wrap64 n = n := IntWalk.wrap64_in n ⟨by omega, by omega⟩
theorem sh32 (n : Nat) (h : 4294967296 ≤ n) : bitLen n = 32 + bitLen (n / 4294967296) := bitLen_shift n 32 (by show n / 4294967296 ≠ 0; omega)
theorem sh16 (n : Nat) (h : 65536 ≤ n) : bitLen n = 16 + bitLen (n / 65536) := bitLen_shift n 16 (by show n / 65536 ≠ 0; omega)
theorem sh8 (n : Nat) (h : 256 ≤ n) : bitLen n = 8 + bitLen (n / 256) := bitLen_shift n 8 (by show n / 256 ≠ 0; omega)
theorem len_fin (k i n : Nat) (z : Int) (hz : z = (k : Int)) (h : i < 256) (hk : k ≤ 56) (e : bitLen n = k + bitLen i) : wrap64 (z + wrap64 ((bitLen i : Nat) : Int)) = ((bitLen n : Nat) : Int) := by
  have hb := bitLen_le8 i h
  subst hz
  rw [wrap64_small ((bitLen i : Nat) : Int) (by omega) (by omega), wrap64_small _ (by omega) (by omega), e]
  omega
theorem len_fin0 (n : Nat) (h : n < 256) : wrap64 (wrap64 ((bitLen n : Nat) : Int)) = ((bitLen n : Nat) : Int) := by
  have hb := bitLen_le8 n h
  rw [wrap64_small ((bitLen n : Nat) : Int) (by omega) (by omega), wrap64_small _ (by omega) (by omega)]
theorem bitLen_le64 (n : Nat) (h : n < 18446744073709551616) : bitLen n ≤ 64 := by
  unfold bitLen
  split
  · omega
  rename_i h0
  have := (Nat.log2_lt h0).2 (show n < 2 ^ 64 from h)
  omega
set_option maxHeartbeats 1000000 in
theorem len64_111 (n m k j : Nat) (w : World) (hn : n < 18446744073709551616) (i0 : decide ((4294967296 : Int) ≤ (n : Int)) = true) (i1 : (n : Int) / 4294967296 = (m : Int)) (i2 : decide ((65536 : Int) ≤ (m : Int)) = true) (i3 : (m : Int) / 65536 = (k : Int)) (i4 : decide ((256 : Int) ≤ (k : Int)) = true) (i5 : (k : Int) / 256 = (j : Int)) (i6 : (j : Int) < 256) :
    Calls Tryz.prog 87 #[.int .u64 (n : Int)] w fun e w' => e = .returned (.int .i64 ((bitLen n : Nat) : Int)) ∧ w' = w := by
  have Q0 : Hid (4294967296 ≤ n) := by have := of_decide_eq_true i0; show 4294967296 ≤ n; omega
  have Q1 : Hid (65536 ≤ m) := by have := of_decide_eq_true i2; show 65536 ≤ m; omega
  have Q2 : Hid (256 ≤ k) := by have := of_decide_eq_true i4; show 256 ≤ k; omega
  go_enter Tryz.func87, Tryz.ntmps87
  go_wp2
  go_ret
  refine ⟨ret_int ?_, rfl⟩
  simp only [len8tab_get]
  exact len_fin 56 j n 56 (by omega) (by omega) (by omega) (by rw [sh32 n Q0.out, show n / 4294967296 = m from by omega, sh16 m Q1.out, show m / 65536 = k from by omega, sh8 k Q2.out, show k / 256 = j from by omega] <;> omega)
set_option maxHeartbeats 1000000 in
theorem len64_110 (n m k : Nat) (w : World) (hn : n < 18446744073709551616) (i0 : decide ((4294967296 : Int) ≤ (n : Int)) = true) (i1 : (n : Int) / 4294967296 = (m : Int)) (i2 : decide ((65536 : Int) ≤ (m : Int)) = true) (i3 : (m : Int) / 65536 = (k : Int)) (i4 : decide ((256 : Int) ≤ (k : Int)) = false) (i5 : (k : Int) < 256) :
    Calls Tryz.prog 87 #[.int .u64 (n : Int)] w fun e w' => e = .returned (.int .i64 ((bitLen n : Nat) : Int)) ∧ w' = w := by
  have Q0 : Hid (4294967296 ≤ n) := by have := of_decide_eq_true i0; show 4294967296 ≤ n; omega
  have Q1 : Hid (65536 ≤ m) := by have := of_decide_eq_true i2; show 65536 ≤ m; omega
  go_enter Tryz.func87, Tryz.ntmps87
  go_wp2
  go_ret
  refine ⟨ret_int ?_, rfl⟩
  simp only [len8tab_get]
  exact len_fin 48 k n 48 (by omega) (by omega) (by omega) (by rw [sh32 n Q0.out, show n / 4294967296 = m from by omega, sh16 m Q1.out, show m / 65536 = k from by omega] <;> omega)
set_option maxHeartbeats 1000000 in
theorem len64_101 (n m j : Nat) (w : World) (hn : n < 18446744073709551616) (i0 : decide ((4294967296 : Int) ≤ (n : Int)) = true) (i1 : (n : Int) / 4294967296 = (m : Int)) (i2 : decide ((65536 : Int) ≤ (m : Int)) = false) (i3 : decide ((256 : Int) ≤ (m : Int)) = true) (i4 : (m : Int) / 256 = (j : Int)) (i5 : (j : Int) < 256) :
    Calls Tryz.prog 87 #[.int .u64 (n : Int)] w fun e w' => e = .returned (.int .i64 ((bitLen n : Nat) : Int)) ∧ w' = w := by
  have Q0 : Hid (4294967296 ≤ n) := by have := of_decide_eq_true i0; show 4294967296 ≤ n; omega
  have Q1 : Hid (256 ≤ m) := by have := of_decide_eq_true i3; show 256 ≤ m; omega
  go_enter Tryz.func87, Tryz.ntmps87
  go_wp2
  go_ret
  refine ⟨ret_int ?_, rfl⟩
  simp only [len8tab_get]
  exact len_fin 40 j n 40 (by omega) (by omega) (by omega) (by rw [sh32 n Q0.out, show n / 4294967296 = m from by omega, sh8 m Q1.out, show m / 256 = j from by omega] <;> omega)
set_option maxHeartbeats 1000000 in
theorem len64_100 (n m : Nat) (w : World) (hn : n < 18446744073709551616) (i0 : decide ((4294967296 : Int) ≤ (n : Int)) = true) (i1 : (n : Int) / 4294967296 = (m : Int)) (i2 : decide ((65536 : Int) ≤ (m : Int)) = false) (i3 : decide ((256 : Int) ≤ (m : Int)) = false) (i4 : (m : Int) < 256) :
    Calls Tryz.prog 87 #[.int .u64 (n : Int)] w fun e w' => e = .returned (.int .i64 ((bitLen n : Nat) : Int)) ∧ w' = w := by
  have Q0 : Hid (4294967296 ≤ n) := by have := of_decide_eq_true i0; show 4294967296 ≤ n; omega
  go_enter Tryz.func87, Tryz.ntmps87
  go_wp2
  go_ret
  refine ⟨ret_int ?_, rfl⟩
  simp only [len8tab_get]
  exact len_fin 32 m n 32 (by omega) (by omega) (by omega) (by rw [sh32 n Q0.out, show n / 4294967296 = m from by omega] <;> omega)
set_option maxHeartbeats 1000000 in
theorem len64_011 (n k j : Nat) (w : World) (hn : n < 18446744073709551616) (i0 : decide ((4294967296 : Int) ≤ (n : Int)) = false) (i1 : decide ((65536 : Int) ≤ (n : Int)) = true) (i2 : (n : Int) / 65536 = (k : Int)) (i3 : decide ((256 : Int) ≤ (k : Int)) = true) (i4 : (k : Int) / 256 = (j : Int)) (i5 : (j : Int) < 256) :
    Calls Tryz.prog 87 #[.int .u64 (n : Int)] w fun e w' => e = .returned (.int .i64 ((bitLen n : Nat) : Int)) ∧ w' = w := by
  have Q0 : Hid (65536 ≤ n) := by have := of_decide_eq_true i1; show 65536 ≤ n; omega
  have Q1 : Hid (256 ≤ k) := by have := of_decide_eq_true i3; show 256 ≤ k; omega
  go_enter Tryz.func87, Tryz.ntmps87
  go_wp2
  go_ret
  refine ⟨ret_int ?_, rfl⟩
  simp only [len8tab_get]
  exact len_fin 24 j n 24 (by omega) (by omega) (by omega) (by rw [sh16 n Q0.out, show n / 65536 = k from by omega, sh8 k Q1.out, show k / 256 = j from by omega] <;> omega)
set_option maxHeartbeats 1000000 in
theorem len64_010 (n k : Nat) (w : World) (hn : n < 18446744073709551616) (i0 : decide ((4294967296 : Int) ≤ (n : Int)) = false) (i1 : decide ((65536 : Int) ≤ (n : Int)) = true) (i2 : (n : Int) / 65536 = (k : Int)) (i3 : decide ((256 : Int) ≤ (k : Int)) = false) (i4 : (k : Int) < 256) :
    Calls Tryz.prog 87 #[.int .u64 (n : Int)] w fun e w' => e = .returned (.int .i64 ((bitLen n : Nat) : Int)) ∧ w' = w := by
  have Q0 : Hid (65536 ≤ n) := by have := of_decide_eq_true i1; show 65536 ≤ n; omega
  go_enter Tryz.func87, Tryz.ntmps87
  go_wp2
  go_ret
  refine ⟨ret_int ?_, rfl⟩
  simp only [len8tab_get]
  exact len_fin 16 k n 16 (by omega) (by omega) (by omega) (by rw [sh16 n Q0.out, show n / 65536 = k from by omega] <;> omega)
set_option maxHeartbeats 1000000 in
theorem len64_001 (n j : Nat) (w : World) (hn : n < 18446744073709551616) (i0 : decide ((4294967296 : Int) ≤ (n : Int)) = false) (i1 : decide ((65536 : Int) ≤ (n : Int)) = false) (i2 : decide ((256 : Int) ≤ (n : Int)) = true) (i3 : (n : Int) / 256 = (j : Int)) (i4 : (j : Int) < 256) :
    Calls Tryz.prog 87 #[.int .u64 (n : Int)] w fun e w' => e = .returned (.int .i64 ((bitLen n : Nat) : Int)) ∧ w' = w := by
  have Q0 : Hid (256 ≤ n) := by have := of_decide_eq_true i2; show 256 ≤ n; omega
  go_enter Tryz.func87, Tryz.ntmps87
  go_wp2
  go_ret
  refine ⟨ret_int ?_, rfl⟩
  simp only [len8tab_get]
  exact len_fin 8 j n 8 (by omega) (by omega) (by omega) (by rw [sh8 n Q0.out, show n / 256 = j from by omega] <;> omega)
set_option maxHeartbeats 1000000 in
theorem len64_000 (n  : Nat) (w : World) (hn : n < 18446744073709551616) (i0 : decide ((4294967296 : Int) ≤ (n : Int)) = false) (i1 : decide ((65536 : Int) ≤ (n : Int)) = false) (i2 : decide ((256 : Int) ≤ (n : Int)) = false) (i3 : (n : Int) < 256) :
    Calls Tryz.prog 87 #[.int .u64 (n : Int)] w fun e w' => e = .returned (.int .i64 ((bitLen n : Nat) : Int)) ∧ w' = w := by
  go_enter Tryz.func87, Tryz.ntmps87
  go_wp2
  go_ret
  refine ⟨ret_int ?_, rfl⟩
  simp only [len8tab_get]
  exact len_fin0 n (by omega)
theorem len64_any (n : Nat) (w : World) (hn : n < 18446744073709551616) :
    Calls Tryz.prog 87 #[.int .u64 (n : Int)] w fun e w' => e = .returned (.int .i64 ((bitLen n : Nat) : Int)) ∧ w' = w := by
  by_cases h1 : 4294967296 ≤ n
  · by_cases h2 : 65536 ≤ n / 4294967296
    · by_cases h3 : 256 ≤ n / 4294967296 / 65536
      · exact len64_111 n (n / 4294967296) ((n / 4294967296) / 65536) (((n / 4294967296) / 65536) / 256) w hn (decide_eq_true (by omega)) (by omega) (decide_eq_true (by omega)) (by omega) (decide_eq_true (by omega)) (by omega) (by omega)
      exact len64_110 n (n / 4294967296) ((n / 4294967296) / 65536) w hn (decide_eq_true (by omega)) (by omega) (decide_eq_true (by omega)) (by omega) (decide_eq_false (by omega)) (by omega)
    by_cases h3 : 256 ≤ n / 4294967296
    · exact len64_101 n (n / 4294967296) ((n / 4294967296) / 256) w hn (decide_eq_true (by omega)) (by omega) (decide_eq_false (by omega)) (decide_eq_true (by omega)) (by omega) (by omega)
    exact len64_100 n (n / 4294967296) w hn (decide_eq_true (by omega)) (by omega) (decide_eq_false (by omega)) (decide_eq_false (by omega)) (by omega)
  by_cases h2 : 65536 ≤ n
  · by_cases h3 : 256 ≤ n / 65536
    · exact len64_011 n (n / 65536) ((n / 65536) / 256) w hn (decide_eq_false (by omega)) (decide_eq_true (by omega)) (by omega) (decide_eq_true (by omega)) (by omega) (by omega)
    exact len64_010 n (n / 65536) w hn (decide_eq_false (by omega)) (decide_eq_true (by omega)) (by omega) (decide_eq_false (by omega)) (by omega)
  by_cases h3 : 256 ≤ n
  · exact len64_001 n (n / 256) w hn (decide_eq_false (by omega)) (decide_eq_false (by omega)) (decide_eq_true (by omega)) (by omega) (by omega)
  exact len64_000 n  w hn (decide_eq_false (by omega)) (decide_eq_false (by omega)) (decide_eq_false (by omega)) (by omega)
set_option maxHeartbeats 400000 in
theorem lz64_any (n : Nat) (w : World) (hn : n < 18446744073709551616) :
    Calls Tryz.prog 126 #[.int .u64 (n : Int)] w fun e w' => e = .returned (.int .i64 ((64 - bitLen n : Nat) : Int)) ∧ w' = w := by
  have hb := bitLen_le64 n hn
  go_enter Tryz.func126, Tryz.ntmps126
  go_wp2_with fail
  refine (len64_any n _ hn).mono ?_
  rintro e w' ⟨rfl, rfl⟩
  go_wp2_with fail
  go_ret
  exact ⟨ret_int (by omega), rfl⟩
theorem P_two (n : Nat) : P n = 2 ^ (64 * n) := by
  unfold P
  rw [show (18446744073709551616 : Nat) = 2 ^ 64 from rfl, ← Nat.pow_mul]
theorem V_div {F : Nat → Nat} {n : Nat} (h : Ok F n) : V F (n + 1) / P n = F n := by
  rw [V_succ, Nat.add_mul_div_right _ _ (P_pos n), Nat.div_eq_of_lt (V_lt h), Nat.zero_add]
theorem bitLen_V {F : Nat → Nat} {n : Nat} (h : Ok F (n + 1)) (h0 : F n ≠ 0) : bitLen (V F (n + 1)) = 64 * n + bitLen (F n) := by
  have e := V_div (h.mono (Nat.le_succ n))
  have hs := bitLen_shift (V F (n + 1)) (64 * n) (by rw [← P_two, e]; exact h0)
  rw [← P_two, e] at hs
  exact hs
theorem isNat_zero_iff {w : World} {a : Option Addr} {n cap : Nat} {x : Nat} (h : IsNat w (.agg #[.slice a n cap]) x) : n = 0 ↔ x = 0 := by
  obtain ⟨a', n', cap', F, e, hs, h0, h1, hv⟩ := h
  simp only [Value.agg.injEq, Array.mk.injEq, List.cons.injEq, Value.slice.injEq, and_true] at e
  obtain ⟨rfl, rfl, rfl⟩ := e
  constructor
  · rintro rfl
    exact hv.symm
  intro hx
  by_cases e0 : n = 0
  · exact e0
  have := V_ge F n (by omega)
  have hF := h1 (by omega)
  have hp := P_pos (n - 1)
  have hm : 1 * P (n - 1) ≤ F (n - 1) * P (n - 1) := Nat.mul_le_mul_right _ (by omega)
  omega
set_option maxHeartbeats 400000 in
theorem len_any (v : Value) (x : Nat) (w : World) (h : IsNat w v x) (hx : Fits x) :
    Calls Tryz.prog 76 #[v] w fun e w' => e = .returned (.int .i64 ((bitLen x : Nat) : Int)) ∧ Below w.heap.size w w' := by
  obtain ⟨a, n, cap, F, rfl, hs, h0, h1, hv⟩ := h
  by_cases e0 : n = 0
  · subst e0
    have hv0 : x = 0 := hv.symm
    subst hv0
    clear hv h1 h0
    go_enter Tryz.func76, Tryz.ntmps76
    go_wp2
    go_ret
    exact ⟨rfl, (Below.refl _ _).alloc (Nat.le_refl _) _⟩
  obtain ⟨m, rfl⟩ : ∃ m, n = m + 1 := ⟨n - 1, by omega⟩
  obtain ⟨b, o, rfl, hw⟩ := hs.at m (by omega)
  have hF : F m ≠ 0 := h1 (by omega)
  have hok := hs.2.2.1
  have hm : m + 1 ≤ 4294967296 := fits_len (hv.symm ▸ hx) h1
  have hlen := bitLen_V hok hF
  rw [hv] at hlen
  have hc := hw m (by omega)
  have hlt : b < w.heap.size := World.block_lt_of_cell? _ _ hc
  have hFm := hok m (by omega)
  have hbl := bitLen_le64 (F m) hFm
  have HL : Hid _ := hlen
  clear hlen hw h0 h1 hv hs hok hx
  have hne : ((m : Int) + 1 == 0) = false := by simp; omega
  go_enter Tryz.func76, Tryz.ntmps76
  go_wp2_with fail
  refine (len64_any (F m) _ hFm).mono ?_
  rintro e w1 ⟨rfl, rfl⟩
  go_wp2_with fail
  go_ret
  exact ⟨ret_int (by rw [HL.out]; omega), (Below.refl _ _).alloc (Nat.le_refl _) _⟩
theorem isNat_fits1 {w : World} {a : Option Addr} {n cap : Nat} {F : Nat → Nat} (hs : Sl w a n cap F) (h1 : 0 < n → F (n - 1) ≠ 0) : V F n < 18446744073709551616 ↔ n ≤ 1 := by
  rw [← P_one]
  constructor
  · intro h
    exact len_le_of h h1
  intro h
  exact Nat.lt_of_lt_of_le (V_lt hs.2.2.1) (P_le h)
set_option maxHeartbeats 400000 in
theorem uint_yes (v : Value) (x : Nat) (w : World) (h : IsNat w v x) (hx : x < 18446744073709551616) :
    Calls Tryz.prog 106 #[v] w fun e w' => e = .returned (.tuple #[.int .u64 (x : Int), .bool true]) ∧ Below w.heap.size w w' := by
  obtain ⟨a, n, cap, F, rfl, hs, h0, h1, hv⟩ := h
  have hn := (isNat_fits1 hs h1).1 (hv.symm ▸ hx)
  by_cases e0 : n = 0
  · subst e0
    have hv0 : x = 0 := hv.symm
    subst hv0
    clear hv h1 h0
    go_enter Tryz.func106, Tryz.ntmps106
    go_wp2
    go_ret2
    exact ⟨rfl, (Below.refl _ _).alloc (Nat.le_refl _) _⟩
  obtain rfl : n = 1 := by omega
  obtain ⟨b, o, rfl, hw⟩ := hs.at 0 (by omega)
  have hxF : x = F 0 := by rw [← hv, V_succ, V_zero, P_zero]; omega
  have hc : w.cell? ⟨b, o, none⟩ = some (.int .u64 (F 0 : Nat)) := hw 0 (by omega)
  rw [← hxF] at hc
  have hlt : b < w.heap.size := World.block_lt_of_cell? _ _ hc
  clear hw h0 h1 hv hs hxF hn e0
  go_enter Tryz.func106, Tryz.ntmps106
  go_wp2
  go_ret2
  exact ⟨rfl, (Below.refl _ _).alloc (Nat.le_refl _) _⟩
def cmpI (x y : Nat) : Int := if x < y then -1 else if x = y then 0 else 1
theorem cmpI_lt {x y : Nat} (h : x < y) : cmpI x y = -1 := by simp [cmpI, h]
theorem cmpI_gt {x y : Nat} (h : y < x) : cmpI x y = 1 := by simp [cmpI, Nat.not_lt.2 (Nat.le_of_lt h), Nat.ne_of_gt h]
theorem cmpI_eq (x : Nat) : cmpI x x = 0 := by simp [cmpI]
theorem V_lt_len {F G : Nat → Nat} {n m : Nat} (hF : Ok F n) (hm : n < m) (h1 : G (m - 1) ≠ 0) : V F n < V G m :=
  Nat.lt_of_lt_of_le (V_lt hF) (V_long hm h1)
theorem V_lt_at {F G : Nat → Nat} {n k : Nat} (hF : Ok F n) (hk : k < n) (hl : F k < G k) (he : ∀ j, k + 1 ≤ j → j < n → F j = G j) : V F n < V G n := by
  obtain ⟨t, rfl⟩ : ∃ t, n = k + 1 + t := ⟨n - (k + 1), by omega⟩
  rw [V_split F (k + 1), V_split G (k + 1), V_congr (F := fun i => F (k + 1 + i)) (G := fun i => G (k + 1 + i)) fun i hi => he _ (by omega) (by omega), V_succ, V_succ]
  have h1 := V_lt (hF.mono (show k ≤ k + 1 + t by omega))
  have h2 : (F k + 1) * P k ≤ G k * P k := Nat.mul_le_mul_right _ hl
  rw [Nat.add_mul] at h2
  omega
theorem bel_alloc2 (w : World) (o1 o2 : Obj) : Below w.heap.size w ((w.alloc o1).alloc o2) := ((Below.refl _ _).alloc (Nat.le_refl _) _).alloc (by simp) _
theorem bel_drewN {B : Nat} {a w : World} (h : Below B a w) (n : Nat) : Below B a (w.drewN n) := ⟨h.os, h.tape, h.output, h.size, h.block⟩
set_option maxHeartbeats 400000 in
theorem cmp_any (v u : Value) (x y : Nat) (w : World) (h : IsNat w v x) (k : IsNat w u y) (hx : Fits x) (hy : Fits y) :
    Calls Tryz.prog 53 #[v, u] w fun e w' => e = .returned (.int .i64 (cmpI x y)) ∧ Below w.heap.size w w' := by
  obtain ⟨a, n, cap, F, rfl, hs, h0, h1, hv⟩ := h
  obtain ⟨a', m, cap', G, rfl, ks, k0, k1, kv⟩ := k
  have hn : n ≤ 4294967296 := fits_len (hv.symm ▸ hx) h1
  have hm : m ≤ 4294967296 := fits_len (kv.symm ▸ hy) k1
  rcases Nat.lt_trichotomy n m with hlt | heq | hgt
  · have HC : Hid (cmpI x y = -1) := cmpI_lt (by rw [← hv, ← kv]; exact V_lt_len hs.2.2.1 hlt (k1 (by omega)))
    clear hs h0 h1 hv ks k0 k1 kv hx hy
    go_enter Tryz.func53, Tryz.ntmps53
    go_wp2
    go_ret
    exact ⟨ret_int HC.out.symm, bel_alloc2 _ _ _⟩
  · subst heq
    go_enter Tryz.func53, Tryz.ntmps53
    have HH : Hid _ := (show (Sl w a n cap F ∧ Sl w a' n cap' G ∧ V F n = x ∧ V G n = y) from ⟨hs, ks, hv, kv⟩)
    clear hs h0 h1 hv ks k0 k1 kv hx hy
    go_wp2
    go_loopw [5] (fun t wr => ∃ (k nd : Nat), k ≤ n ∧ t = .int .i64 ((k : Int) - 1) ∧ (∀ j, k ≤ j → j < n → F j = G j) ∧ wr = ((w.alloc (.cells #[.slice a n cap] 45)).alloc (.cells #[.slice a' n cap'] 45)).drewN nd) (fun t _ => (intOf t + 1).toNat)
    case atStart => exact ⟨n, 0, Nat.le_refl _, rfl, fun j h1 h2 => absurd h1 (by omega), rfl⟩
    case round =>
      obtain ⟨k, nd, hk, rfl, he, rfl⟩ := hrel
      by_cases e0 : k = 0
      · subst e0
        have HE : Hid _ := he
        clear he
        go_wp2
        go_ret
        refine ⟨ret_int ?_, bel_drewN (bel_alloc2 _ _ _) _⟩
        obtain ⟨_, _, q1, q2⟩ := HH.out
        rw [← q1, ← q2, V_congr fun i hi => HE.out i (Nat.zero_le _) hi, cmpI_eq]
      obtain ⟨j, rfl⟩ : ∃ j, k = j + 1 := ⟨k - 1, by omega⟩
      obtain ⟨b, o, rfl, hw⟩ := HH.out.1.at j (by omega)
      obtain ⟨b', o', rfl, kw⟩ := HH.out.2.1.at j (by omega)
      have hc := hw j (by omega)
      have kc := kw j (by omega)
      have hb : b < w.heap.size := World.block_lt_of_cell? _ _ hc
      have kb : b' < w.heap.size := World.block_lt_of_cell? _ _ kc
      have HE : Hid _ := he
      clear he hw kw
      rcases Nat.lt_trichotomy (F j) (G j) with hl | hl | hl
      · have hl' : ((F j : Nat) : Int) < (G j : Nat) := by omega
        have HC : Hid (cmpI x y = -1) := by
          obtain ⟨q1, _, q3, q4⟩ := HH.out
          exact cmpI_lt (by rw [← q3, ← q4]; exact V_lt_at q1.2.2.1 (by omega) hl HE.out)
        go_wp2_with fail
        go_region
        go_wp2_with fail
        go_ret
        exact ⟨ret_int HC.out.symm, bel_drewN (bel_alloc2 _ _ _) _⟩
      · have hd1 : decide (((F j : Nat) : Int) < (G j : Nat)) = false := decide_eq_false (by omega)
        have hd2 : decide (((G j : Nat) : Int) < (F j : Nat)) = false := decide_eq_false (by omega)
        go_wp2_with fail
        go_region
        go_wp2_with fail
        go_region
        go_wp2_with fail
        go_roundw
        case rel =>
          refine ⟨j, nd + 1 + 1, by omega, by go_num, fun i h1 h2 => ?_, rfl⟩
          by_cases e : i = j
          · rw [e, hl]
          exact HE.out i (by omega) h2
        case measure => simp [intOf]
      have hd1 : decide (((F j : Nat) : Int) < (G j : Nat)) = false := decide_eq_false (by omega)
      have hl' : ((G j : Nat) : Int) < (F j : Nat) := by omega
      have HC : Hid (cmpI x y = 1) := by
        obtain ⟨_, q2, q3, q4⟩ := HH.out
        exact cmpI_gt (by rw [← q3, ← q4]; exact V_lt_at q2.2.2.1 (by omega) hl fun i h1 h2 => (HE.out i h1 h2).symm)
      go_wp2_with fail
      go_region
      go_wp2_with fail
      go_region
      go_wp2_with fail
      go_ret
      exact ⟨ret_int HC.out.symm, bel_drewN (bel_alloc2 _ _ _) _⟩
  have HC : Hid (cmpI x y = 1) := cmpI_gt (by rw [← hv, ← kv]; exact V_lt_len ks.2.2.1 hgt (h1 (by omega)))
  clear hs h0 h1 hv ks k0 k1 kv hx hy
  have hd1 : decide ((n : Int) < m) = false := decide_eq_false (by omega)
  have hd2 : (m : Int) < n := by omega
  go_enter Tryz.func53, Tryz.ntmps53
  go_wp2
  go_ret
  exact ⟨ret_int HC.out.symm, bel_alloc2 _ _ _⟩
def addLo (x y c : Nat) : Nat := (x + y + c) % 18446744073709551616
def addHi (x y c : Nat) : Nat := (x + y + c) / 18446744073709551616
def subLo (x y c : Nat) : Nat := (x + 18446744073709551616 - y - c) % 18446744073709551616
def subHi (x y c : Nat) : Nat := if x < y + c then 1 else 0
theorem add64 (x y c : Nat) (hc : c ≤ 1) (w : World) : (callFunc 91 #[.int .u64 (x : Int), .int .u64 (y : Int), .int .u64 (c : Int)]).run Tryz.prog w =
    .ok (.value (.tuple #[.int .u64 (addLo x y c : Nat), .int .u64 (addHi x y c : Nat)])) w := by
  rw [run_callFunc_extern Tryz.func91 (by kernel_rfl) (by kernel_rfl) (by kernel_rfl) (e := add64Entry) (by kernel_rfl), run_add64 x y c (by omega) (by omega) (by omega) (by omega)]
  simp only [Result.andThen, addLo, addHi]
  congr 5 <;> omega
theorem sub64 (x y c : Nat) (hc : c ≤ 1) (w : World) : (callFunc 149 #[.int .u64 (x : Int), .int .u64 (y : Int), .int .u64 (c : Int)]).run Tryz.prog w =
    .ok (.value (.tuple #[.int .u64 (subLo x y c : Nat), .int .u64 (subHi x y c : Nat)])) w := by
  rw [run_callFunc_extern Tryz.func149 (by kernel_rfl) (by kernel_rfl) (by kernel_rfl) (e := sub64Entry) (by kernel_rfl), run_sub64 x y c hc]
  rfl
theorem add64_y0 (x c : Nat) (hc : c ≤ 1) (w : World) : (callFunc 91 #[.int .u64 (x : Int), .int .u64 0, .int .u64 (c : Int)]).run Tryz.prog w =
    .ok (.value (.tuple #[.int .u64 (addLo x 0 c : Nat), .int .u64 (addHi x 0 c : Nat)])) w := add64 x 0 c hc w
theorem add64_c0 (x y : Nat) (w : World) : (callFunc 91 #[.int .u64 (x : Int), .int .u64 (y : Int), .int .u64 0]).run Tryz.prog w =
    .ok (.value (.tuple #[.int .u64 (addLo x y 0 : Nat), .int .u64 (addHi x y 0 : Nat)])) w := add64 x y 0 (by omega) w
theorem sub64_y0 (x c : Nat) (hc : c ≤ 1) (w : World) : (callFunc 149 #[.int .u64 (x : Int), .int .u64 0, .int .u64 (c : Int)]).run Tryz.prog w =
    .ok (.value (.tuple #[.int .u64 (subLo x 0 c : Nat), .int .u64 (subHi x 0 c : Nat)])) w := sub64 x 0 c hc w
theorem sub64_c0 (x y : Nat) (w : World) : (callFunc 149 #[.int .u64 (x : Int), .int .u64 (y : Int), .int .u64 0]).run Tryz.prog w =
    .ok (.value (.tuple #[.int .u64 (subLo x y 0 : Nat), .int .u64 (subHi x y 0 : Nat)])) w := sub64 x y 0 (by omega) w
theorem addLo_lt (x y c : Nat) : addLo x y c < 18446744073709551616 := Nat.mod_lt _ (by omega)
theorem subLo_lt (x y c : Nat) : subLo x y c < 18446744073709551616 := Nat.mod_lt _ (by omega)
theorem addHi_le (x y c : Nat) (hx : x < 18446744073709551616) (hy : y < 18446744073709551616) (hc : c ≤ 1) : addHi x y c ≤ 1 := by unfold addHi; omega
theorem subHi_le (x y c : Nat) : subHi x y c ≤ 1 := by unfold subHi; split <;> omega
theorem add_eq (x y c : Nat) : addLo x y c + addHi x y c * 18446744073709551616 = x + y + c := by unfold addLo addHi; omega
theorem sub_eq (x y c : Nat) (hx : x < 18446744073709551616) (hy : y < 18446744073709551616) (hc : c ≤ 1) : subLo x y c + y + c = x + subHi x y c * 18446744073709551616 := by
  unfold subLo subHi; split <;> omega
theorem add_step (V VF VY g f y c c' p : Nat) (h : g + c' * 18446744073709551616 = f + y + c) (hk : V + c * p = VF + VY) : (V + g * p) + c' * (p * 18446744073709551616) = (VF + f * p) + (VY + y * p) := by
  have h2 : (g + c' * 18446744073709551616) * p = (f + y + c) * p := by rw [h]
  simp only [Nat.add_mul] at h2
  have e : c' * (p * 18446744073709551616) = c' * 18446744073709551616 * p := by rw [Nat.mul_assoc, Nat.mul_comm p]
  omega
theorem sub_step (V VF VY g f y c c' p : Nat) (h : g + y + c = f + c' * 18446744073709551616) (hk : V + VY = VF + c * p) : (V + g * p) + (VY + y * p) = (VF + f * p) + c' * (p * 18446744073709551616) := by
  have h2 : (g + y + c) * p = (f + c' * 18446744073709551616) * p := by rw [h]
  simp only [Nat.add_mul] at h2
  have e : c' * (p * 18446744073709551616) = c' * 18446744073709551616 * p := by rw [Nat.mul_assoc, Nat.mul_comm p]
  omega
def fro (F : Nat → Nat) (o : Nat) : Nat → Nat := fun i => F (o + i)
def Row (w : World) (b N : Nat) (F : Nat → Nat) : Prop := w.rowIs b 82 N (fun j => .int .u64 ((F j : Nat) : Int)) ∧ Ok F N
def put (F : Nat → Nat) (i v : Nat) : Nat → Nat := fun j => if j = i then v else F j
theorem put_same (F : Nat → Nat) (i v : Nat) : put F i v i = v := by simp [put]
theorem put_other (F : Nat → Nat) {i j : Nat} (v : Nat) (h : j ≠ i) : put F i v j = F j := by simp [put, h]
theorem Row.cell {w : World} {b N : Nat} {F : Nat → Nat} (h : Row w b N F) {i : Nat} (hi : i < N) : w.cell? ⟨b, i, none⟩ = some (.int .u64 (F i : Nat)) := h.1.cell hi
theorem Row.frozen {w : World} {b N : Nat} {F : Nat → Nat} (h : Row w b N F) (i : Nat) : w.frozen? ⟨b, i, none⟩ = false := h.1.frozen i
theorem Row.set {w : World} {b N : Nat} {F : Nat → Nat} (h : Row w b N F) (i : Nat) {v : Nat} (hv : v < 18446744073709551616) : Row (w.setCell ⟨b, i, none⟩ (.int .u64 (v : Int))) b N (put F i v) := by
  refine ⟨(h.1.set i _).congr fun j hj => ?_, fun j hj => ?_⟩
  · unfold put
    by_cases e : j = i <;> simp [e]
  unfold put
  split
  · exact hv
  exact h.2 j hj
theorem Row.words {w : World} {b N o n : Nat} {F : Nat → Nat} (h : Row w b N F) (ho : o + n ≤ N) : Words w b o n (fro F o) := fun i hi => h.cell (by omega)
theorem Row.drew {w : World} {b N : Nat} {F : Nat → Nat} (h : Row w b N F) (k : Nat) : Row (w.drewN k) b N F := h
theorem Row.kept {w w' : World} {b N : Nat} {F : Nat → Nat} {row : Option Nat} (h : Row w b N F) (hg : w.grownBy w' row) (hne : some b ≠ row) : Row w' b N F := ⟨h.1.of_block (hg.block b h.1.lt hne), h.2⟩
theorem Row.below {w w' : World} {b N : Nat} {F : Nat → Nat} (h : Row w b N F) (hb : Below w.heap.size w w') : Row w' b N F := ⟨h.1.of_block (hb.block b h.1.lt), h.2⟩
theorem Words.kept {w w' : World} {b o n : Nat} {F : Nat → Nat} {row : Option Nat} (h : Words w b o n F) (hg : w.grownBy w' row) (hne : some b ≠ row) : Words w' b o n F := fun i hi => hg.cell (h i hi) hne
theorem Row.sl {w : World} {b N o n cap : Nat} {F : Nat → Nat} (h : Row w b N F) (ho : o + n ≤ N) (hc : n ≤ cap) (hm : cap ≤ 9223372036854775807) : Sl w (some ⟨b, o, none⟩) n cap (fro F o) :=
  ⟨hc, hm, fun i hi => h.2 _ (by omega), .inr ⟨b, o, rfl, h.words ho⟩⟩
theorem grown_set (w : World) {w' : World} {b : Nat} (h : w.grownBy w' (some b)) (i : Nat) (v : Value) : w.grownBy (w'.setCell ⟨b, i, none⟩ v) (some b) :=
  ⟨h.os, h.tape, h.output, by simpa using h.size, fun k hk hne => (Below.heap_setCell _ _ _ _ (fun e => hne (by rw [e]))).trans (h.block k hk hne)⟩
theorem grown_trans {a b c : World} {r : Option Nat} (h : a.grownBy b r) (k : b.grownBy c r) : a.grownBy c r :=
  ⟨k.os.trans h.os, k.tape.trans h.tape, k.output.trans h.output, Nat.le_trans h.size k.size, fun i hi hne => (k.block i (Nat.lt_of_lt_of_le hi h.size) hne).trans (h.block i hi hne)⟩
theorem grown_drew {a b : World} {r : Option Nat} (h : a.grownBy b r) (n : Nat) : a.grownBy (b.drewN n) r := ⟨h.os, h.tape, h.output, h.size, h.block⟩
theorem V_ext {F H : Nat → Nat} {k n : Nat} (hk : k ≤ n) (h : ∀ i, k ≤ i → i < n → H i = F i) : V H n + V F k = V F n + V H k := by
  obtain ⟨t, rfl⟩ : ∃ t, n = k + t := ⟨n - k, by omega⟩
  rw [V_split H, V_split F, V_congr (F := fun i => H (k + i)) (G := fun i => F (k + i)) fun i hi => h _ (by omega) (by omega)]
  omega
theorem V_put {F : Nat → Nat} {o k v : Nat} : V (fro (put F (o + k) v) o) k = V (fro F o) k := V_congr fun i hi => put_other _ _ (by omega)
def Added (w wr : World) (b N o : Nat) (F : Nat → Nat) (y k c : Nat) (H : Nat → Nat) : Prop :=
  Row wr b N H ∧ (∀ j, j < o ∨ o + k ≤ j → H j = F j) ∧ c ≤ 1 ∧ V (fro H o) k + c * P k = V (fro F o) k + y ∧ w.grownBy wr (some b)
theorem Added.start {w : World} {b N : Nat} {F : Nat → Nat} (o : Nat) (h : Row w b N F) : Added w w b N o F 0 0 0 F :=
  ⟨h, fun _ _ => rfl, by omega, by simp [V_zero], World.grownBy.refl _ _⟩
theorem Added.step {w wr : World} {b N o : Nat} {F : Nat → Nat} {y k c : Nat} {H : Nat → Nat} (h : Added w wr b N o F y k c H) (hk : o + k < N) (g : Nat) (hg : g < 18446744073709551616) :
    Added w (wr.setCell ⟨b, o + k, none⟩ (.int .u64 (addLo (H (o + k)) g c : Nat))) b N o F (y + g * P k) (k + 1) (addHi (H (o + k)) g c) (put H (o + k) (addLo (H (o + k)) g c)) := by
  obtain ⟨h1, h2, h3, h4, h5⟩ := h
  refine ⟨h1.set _ (addLo_lt _ _ _), fun j hj => ?_, addHi_le _ _ _ (h1.2 _ hk) hg h3, ?_, grown_set _ h5 _ _⟩
  · rw [put_other _ _ (by omega)]
    exact h2 j (by omega)
  have hF : F (o + k) = H (o + k) := (h2 _ (by omega)).symm
  rw [V_succ, V_succ, V_put, P_succ]
  show V (fro H o) k + put H (o + k) _ (o + k) * P k + _ = V (fro F o) k + F (o + k) * P k + _
  rw [put_same, hF]
  exact add_step _ _ _ _ _ _ _ _ _ (add_eq _ _ _) h4
theorem Added.fin {w wr : World} {b N o : Nat} {F : Nat → Nat} {y k c n : Nat} {H : Nat → Nat} (h : Added w wr b N o F y k c H) (hk : k ≤ n) (hc : c = 0 ∨ k = n) :
    Added w wr b N o F y n c H := by
  obtain ⟨h1, h2, h3, h4, h5⟩ := h
  refine ⟨h1, fun j hj => h2 j (by omega), h3, ?_, h5⟩
  rcases hc with rfl | rfl
  · have := V_ext (F := fro F o) (H := fro H o) hk fun i hi _ => h2 (o + i) (by omega)
    omega
  exact h4
set_option maxHeartbeats 1000000 in
theorem addWords_any (b N o n cap : Nat) (F : Nat → Nat) (a : Option Addr) (m cap' : Nat) (G : Nat → Nat) (w : World) (hF : Row w b N F) (hG : Sl w a m cap' G) (ho : o + n ≤ N) (hn : n ≤ 1099511627776) (hm : m ≤ n)
    (hne : ∀ b' o', a = some ⟨b', o', none⟩ → b' ≠ b) :
    Calls Tryz.prog 57 #[.slice (some ⟨b, o, none⟩) n cap, .slice a m cap'] w fun e w' => ∃ c : Nat, e = .returned (.int .u64 (c : Int)) ∧ ∃ H, Added w w' b N o F (V G m) n c H := by
  have A0 := Added.start o hF
  have HG : Hid (Sl w a m cap' G) := hG
  have HN : Hid _ := hne
  clear hG hF hne
  go_enter Tryz.func57, Tryz.ntmps57
  go_wp2_with fail
  go_loopw [5, 11] (fun cv t wr => ∃ (k c : Nat) (H : Nat → Nat), k ≤ m ∧ t = .int .i64 (k : Int) ∧ cv = .int .u64 ((c : Nat) : Int) ∧ Added w wr b N o F (V G k) k c H) (fun _ t _ => m - (intOf t).toNat)
  case atStart => exact ⟨0, 0, F, by omega, rfl, rfl, A0⟩
  case round =>
    clear A0
    obtain ⟨k, c, H, hk, rfl, rfl, hA⟩ := hrel
    by_cases hkm : k < m
    · obtain ⟨b', o', rfl, hw⟩ := HG.out.at k hkm
      have hbb : b' ≠ b := HN.out b' o' rfl
      have hc1 : wr.cell? ⟨b', o' + k, none⟩ = some (.int .u64 (G k : Nat)) := hA.2.2.2.2.cell (hw k hkm) (by simpa using hbb)
      have hc2 : wr.cell? ⟨b, o + k, none⟩ = some (.int .u64 (H (o + k) : Nat)) := hA.1.cell (by omega)
      have hf2 : wr.frozen? ⟨b, o + k, none⟩ = false := hA.1.frozen _
      have ad := add64 (H (o + k)) (G k) c hA.2.2.1
      have S : Hid _ := hA.step (by omega) (G k) (HG.out.2.2.1 k hkm)
      clear hA hw hbb
      go_wp2_with (simp only [ad])
      go_roundw
      case rel => exact ⟨k + 1, _, _, by omega, by go_num, rfl, S.out⟩
      case measure => simp [intOf]; omega
    obtain rfl : k = m := by omega
    have HA : Hid _ := hA
    clear hA hkm hk
    go_wp2_with fail
    go_loopw [5, 8] (fun cv t wr => ∃ (q c : Nat) (H : Nat → Nat), k ≤ q ∧ q ≤ n ∧ t = .int .i64 (q : Int) ∧ cv = .int .u64 ((c : Nat) : Int) ∧ Added w wr b N o F (V G k) q c H) (fun _ t _ => n - (intOf t).toNat)
    case atStart => exact ⟨k, c, H, by omega, by omega, rfl, rfl, HA.out⟩
    case round =>
      clear HA
      obtain ⟨q, c2, H2, hq, hqn, rfl, rfl, hA⟩ := hrel
      by_cases hgo : c2 = 0 ∨ q = n
      · have S : Hid _ := hA.fin hqn hgo
        clear hA
        by_cases hc : c2 = 0
        · subst hc
          go_wp2_with fail
          go_ret
          exact ⟨0, rfl, H2, S.out⟩
        obtain rfl : q = n := by omega
        have hcb : (((c2 : Nat) : Int) != 0) = true := by simp; omega
        go_wp2_with fail
        go_ret
        exact ⟨c2, rfl, H2, S.out⟩
      have hcb : (((c2 : Nat) : Int) != 0) = true := by simp; omega
      have hqn' : (q : Int) < n := by omega
      have hc2 : wr.cell? ⟨b, o + q, none⟩ = some (.int .u64 (H2 (o + q) : Nat)) := hA.1.cell (by omega)
      have hf2 : wr.frozen? ⟨b, o + q, none⟩ = false := hA.1.frozen _
      have ad := add64_y0 (H2 (o + q)) c2 hA.2.2.1
      have S : Hid _ := hA.step (by omega) 0 (by omega)
      clear hA
      go_wp2_with (simp only [ad])
      go_roundw
      case rel => exact ⟨q + 1, _, _, by omega, by omega, by go_num, rfl, by have := S.out; rw [Nat.zero_mul, Nat.add_zero] at this; exact this⟩
      case measure => simp [intOf]; omega
def Subbed (w wr : World) (b N o : Nat) (F : Nat → Nat) (y k c : Nat) (H : Nat → Nat) : Prop :=
  Row wr b N H ∧ (∀ j, j < o ∨ o + k ≤ j → H j = F j) ∧ c ≤ 1 ∧ V (fro H o) k + y = V (fro F o) k + c * P k ∧ w.grownBy wr (some b)
theorem Subbed.start {w : World} {b N : Nat} {F : Nat → Nat} (o : Nat) (h : Row w b N F) : Subbed w w b N o F 0 0 0 F :=
  ⟨h, fun _ _ => rfl, by omega, by simp [V_zero], World.grownBy.refl _ _⟩
theorem Subbed.step {w wr : World} {b N o : Nat} {F : Nat → Nat} {y k c : Nat} {H : Nat → Nat} (h : Subbed w wr b N o F y k c H) (hk : o + k < N) (g : Nat) (hg : g < 18446744073709551616) :
    Subbed w (wr.setCell ⟨b, o + k, none⟩ (.int .u64 (subLo (H (o + k)) g c : Nat))) b N o F (y + g * P k) (k + 1) (subHi (H (o + k)) g c) (put H (o + k) (subLo (H (o + k)) g c)) := by
  obtain ⟨h1, h2, h3, h4, h5⟩ := h
  refine ⟨h1.set _ (subLo_lt _ _ _), fun j hj => ?_, subHi_le _ _ _, ?_, grown_set _ h5 _ _⟩
  · rw [put_other _ _ (by omega)]
    exact h2 j (by omega)
  have hF : F (o + k) = H (o + k) := (h2 _ (by omega)).symm
  rw [V_succ, V_succ, V_put, P_succ]
  show V (fro H o) k + put H (o + k) _ (o + k) * P k + _ = V (fro F o) k + F (o + k) * P k + _
  rw [put_same, hF]
  exact sub_step _ _ _ _ _ _ _ _ _ (sub_eq _ _ _ (h1.2 _ hk) hg h3) h4
theorem Subbed.fin {w wr : World} {b N o : Nat} {F : Nat → Nat} {y k c n : Nat} {H : Nat → Nat} (h : Subbed w wr b N o F y k c H) (hk : k ≤ n) (hc : c = 0 ∨ k = n) :
    Subbed w wr b N o F y n c H := by
  obtain ⟨h1, h2, h3, h4, h5⟩ := h
  refine ⟨h1, fun j hj => h2 j (by omega), h3, ?_, h5⟩
  rcases hc with rfl | rfl
  · have := V_ext (F := fro F o) (H := fro H o) hk fun i hi _ => h2 (o + i) (by omega)
    omega
  exact h4
set_option maxHeartbeats 1000000 in
theorem subWords_any (b N o n cap : Nat) (F : Nat → Nat) (a : Option Addr) (m cap' : Nat) (G : Nat → Nat) (w : World) (hF : Row w b N F) (hG : Sl w a m cap' G) (ho : o + n ≤ N) (hn : n ≤ 1099511627776) (hm : m ≤ n)
    (hne : ∀ b' o', a = some ⟨b', o', none⟩ → b' ≠ b) :
    Calls Tryz.prog 134 #[.slice (some ⟨b, o, none⟩) n cap, .slice a m cap'] w fun e w' => e = .returned (.tuple #[]) ∧ ∃ c H, Subbed w w' b N o F (V G m) n c H := by
  have A0 := Subbed.start o hF
  have HG : Hid (Sl w a m cap' G) := hG
  have HN : Hid _ := hne
  clear hG hF hne
  go_enter Tryz.func134, Tryz.ntmps134
  go_wp2_with fail
  go_loopw [4, 10] (fun cv t wr => ∃ (k c : Nat) (H : Nat → Nat), k ≤ m ∧ t = .int .i64 (k : Int) ∧ cv = .int .u64 ((c : Nat) : Int) ∧ Subbed w wr b N o F (V G k) k c H) (fun _ t _ => m - (intOf t).toNat)
  case atStart => exact ⟨0, 0, F, by omega, rfl, rfl, A0⟩
  case round =>
    clear A0
    obtain ⟨k, c, H, hk, rfl, rfl, hA⟩ := hrel
    by_cases hkm : k < m
    · obtain ⟨b', o', rfl, hw⟩ := HG.out.at k hkm
      have hbb : b' ≠ b := HN.out b' o' rfl
      have hc1 : wr.cell? ⟨b', o' + k, none⟩ = some (.int .u64 (G k : Nat)) := hA.2.2.2.2.cell (hw k hkm) (by simpa using hbb)
      have hc2 : wr.cell? ⟨b, o + k, none⟩ = some (.int .u64 (H (o + k) : Nat)) := hA.1.cell (by omega)
      have hf2 : wr.frozen? ⟨b, o + k, none⟩ = false := hA.1.frozen _
      have ad := sub64 (H (o + k)) (G k) c hA.2.2.1
      have S : Hid _ := hA.step (by omega) (G k) (HG.out.2.2.1 k hkm)
      clear hA hw hbb
      go_wp2_with (simp only [ad])
      go_roundw
      case rel => exact ⟨k + 1, _, _, by omega, by go_num, rfl, S.out⟩
      case measure => simp [intOf]; omega
    obtain rfl : k = m := by omega
    have HA : Hid _ := hA
    clear hA hkm hk
    go_wp2_with fail
    go_loopw [4, 7] (fun cv t wr => ∃ (q c : Nat) (H : Nat → Nat), k ≤ q ∧ q ≤ n ∧ t = .int .i64 (q : Int) ∧ cv = .int .u64 ((c : Nat) : Int) ∧ Subbed w wr b N o F (V G k) q c H) (fun _ t _ => n - (intOf t).toNat)
    case atStart => exact ⟨k, c, H, by omega, by omega, rfl, rfl, HA.out⟩
    case round =>
      clear HA
      obtain ⟨q, c2, H2, hq, hqn, rfl, rfl, hA⟩ := hrel
      by_cases hgo : c2 = 0 ∨ q = n
      · have S : Hid _ := hA.fin hqn hgo
        clear hA
        by_cases hc : c2 = 0
        · subst hc
          go_wp2_with fail
          go_end0
          exact ⟨rfl, 0, H2, S.out⟩
        obtain rfl : q = n := by omega
        have hcb : (((c2 : Nat) : Int) != 0) = true := by simp; omega
        go_wp2_with fail
        go_end0
        exact ⟨rfl, c2, H2, S.out⟩
      have hcb : (((c2 : Nat) : Int) != 0) = true := by simp; omega
      have hqn' : (q : Int) < n := by omega
      have hc2 : wr.cell? ⟨b, o + q, none⟩ = some (.int .u64 (H2 (o + q) : Nat)) := hA.1.cell (by omega)
      have hf2 : wr.frozen? ⟨b, o + q, none⟩ = false := hA.1.frozen _
      have ad := sub64_y0 (H2 (o + q)) c2 hA.2.2.1
      have S : Hid _ := hA.step (by omega) 0 (by omega)
      clear hA
      go_wp2_with (simp only [ad])
      go_roundw
      case rel => exact ⟨q + 1, _, _, by omega, by omega, by go_num, rfl, by have := S.out; rw [Nat.zero_mul, Nat.add_zero] at this; exact this⟩
      case measure => simp [intOf]; omega
end Go.Proofs.YtfkkomppfghagaaGreatDoor
