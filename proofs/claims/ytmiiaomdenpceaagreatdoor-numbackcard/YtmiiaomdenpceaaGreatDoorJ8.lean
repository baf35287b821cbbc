/- Contracts of the program's functions, part 8: own work, joined in build order. -/
import Derived.Test.YtmiiaomdenpceaaGreatDoorJ7
namespace Go.Proofs.YtmiiaomdenpceaaGreatDoor
open Go.RowKit
set_option maxRecDepth 100000
set_option linter.unusedVariables false
/-- The n-th power of 2^32. -/
def B (n : Nat) : Nat := 4294967296 ^ n
theorem B_zero : B 0 = 1 := rfl
theorem B_succ (n : Nat) : B (n + 1) = B n * 4294967296 := Nat.pow_succ ..
theorem B_one : B 1 = 4294967296 := by rw [B_succ, B_zero, Nat.one_mul]
theorem B_add (a b : Nat) : B (a + b) = B a * B b := Nat.pow_add ..
theorem B_pos (n : Nat) : 0 < B n := Nat.pow_pos (by decide)
theorem B_le {a b : Nat} (h : a ≤ b) : B a ≤ B b := Nat.pow_le_pow_right (by decide) h
theorem B_two (n : Nat) : B n = 2 ^ (32 * n) := by rw [B, Nat.pow_mul]
/-- The value of n digits, the lowest first. -/
def U (F : Nat → Nat) : Nat → Nat
  | 0 => 0
  | n + 1 => U F n + F n * B n
theorem U_zero (F : Nat → Nat) : U F 0 = 0 := rfl
theorem U_succ (F : Nat → Nat) (n : Nat) : U F (n + 1) = U F n + F n * B n := rfl
theorem U_congr {F G : Nat → Nat} : ∀ {n : Nat}, (∀ i, i < n → F i = G i) → U F n = U G n
  | 0, _ => rfl
  | n + 1, h => by rw [U_succ, U_succ, U_congr fun i hi => h i (by omega), h n (by omega)]
/-- All digits below n are digits. -/
def Dg (F : Nat → Nat) (n : Nat) : Prop := ∀ i, i < n → F i < 4294967296
theorem Dg.mono {F : Nat → Nat} {m n : Nat} (h : Dg F n) (hm : m ≤ n) : Dg F m := fun i hi => h i (by omega)
theorem U_lt {F : Nat → Nat} : ∀ {n : Nat}, Dg F n → U F n < B n
  | 0, _ => by rw [U_zero, B_zero]; omega
  | n + 1, h => by
    have h1 := U_lt (h.mono (Nat.le_succ n))
    have h2 := h n (by omega)
    have h3 : (F n + 1) * B n ≤ 4294967296 * B n := Nat.mul_le_mul_right _ (by omega)
    rw [U_succ, B_succ, Nat.mul_comm (B n)]
    rw [Nat.add_mul] at h3
    omega
theorem U_split (F : Nat → Nat) (m : Nat) : ∀ n, U F (m + n) = U F m + B m * U (fun i => F (m + i)) n
  | 0 => by simp [U_zero]
  | n + 1 => by
    rw [← Nat.add_assoc, U_succ, U_split F m n, U_succ, B_add, Nat.mul_add, Nat.add_assoc, Nat.mul_left_comm]
theorem U_zeros {F : Nat → Nat} {n : Nat} (h : ∀ i, i < n → F i = 0) : U F n = 0 := by
  induction n with
  | zero => rfl
  | succ n ih => rw [U_succ, ih fun i hi => h i (by omega), h n (by omega), Nat.zero_mul]
theorem U_top {F : Nat → Nat} {m n : Nat} (hm : m ≤ n) (h : ∀ i, m ≤ i → i < n → F i = 0) : U F n = U F m := by
  obtain ⟨k, rfl⟩ : ∃ k, n = m + k := ⟨n - m, by omega⟩
  rw [U_split, U_zeros fun i hi => h (m + i) (by omega) (by omega), Nat.mul_zero, Nat.add_zero]
theorem U_ge (F : Nat → Nat) (n : Nat) (h : 0 < n) : F (n - 1) * B (n - 1) ≤ U F n := by
  obtain ⟨m, rfl⟩ : ∃ m, n = m + 1 := ⟨n - 1, by omega⟩
  rw [U_succ, Nat.add_sub_cancel]
  omega
/-- v is the number x, to the base 2^32. -/
def RNat (w : World) (v : Value) (x : Nat) : Prop :=
  ∃ a n cap F, v = .agg #[.slice a n cap] ∧ Sl w a n cap F ∧ Dg F n ∧ (0 < n → F (n - 1) ≠ 0) ∧ U F n = x
theorem RNat.mono {w w' : World} {v : Value} {x : Nat} (h : RNat w v x) (hb : Below w.heap.size w w') : RNat w' v x := by
  obtain ⟨a, n, cap, F, e, hs, hd, h1, hv⟩ := h
  exact ⟨a, n, cap, F, e, hs.mono hb, hd, h1, hv⟩
theorem RNat.setCell {w : World} {v : Value} {x : Nat} (h : RNat w v x) {p : Addr} (hp : ∀ k q, w.cell? p ≠ some (.int k q)) (u : Value) : RNat (w.setCell p u) v x := by
  obtain ⟨a, n, cap, F, e, hs, hd, h1, hv⟩ := h
  exact ⟨a, n, cap, F, e, hs.setCell hp u, hd, h1, hv⟩
theorem RNat.isAgg {w : World} {v : Value} {x : Nat} (h : RNat w v x) : ∃ a n cap, v = .agg #[.slice a n cap] := by
  obtain ⟨a, n, cap, F, e, _⟩ := h
  exact ⟨a, n, cap, e⟩
theorem RNat.open {w : World} {a : Option Addr} {n cap : Nat} {x : Nat} (h : RNat w (.agg #[.slice a n cap]) x) : ∃ F, Sl w a n cap F ∧ Dg F n ∧ (0 < n → F (n - 1) ≠ 0) ∧ U F n = x := by
  obtain ⟨a', n', cap', F, e, h2⟩ := h
  cases e
  exact ⟨F, h2⟩
theorem rnat_zero (w : World) : RNat w (.agg #[.slice none 0 0]) 0 :=
  ⟨none, 0, 0, fun _ => 0, rfl, ⟨Nat.le_refl _, by omega, fun i hi => absurd hi (by omega), .inl rfl⟩, fun i hi => absurd hi (by omega), fun h => absurd h (by omega), rfl⟩
theorem U_long {F : Nat → Nat} {n m : Nat} (hm : m < n) (h1 : F (n - 1) ≠ 0) : B m ≤ U F n := by
  have h2 : B m ≤ B (n - 1) := B_le (by omega)
  have h3 := U_ge F n (by omega)
  have h4 : 1 * B (n - 1) ≤ F (n - 1) * B (n - 1) := Nat.mul_le_mul_right _ (by omega)
  omega
theorem U_len_le {F : Nat → Nat} {n m : Nat} (h : U F n < B m) (h1 : 0 < n → F (n - 1) ≠ 0) : n ≤ m := by
  rcases Nat.lt_or_ge m n with h' | h'
  · exact absurd h (Nat.not_lt.2 (U_long h' (h1 (by omega))))
  · exact h'
/-- A number of at most so many digits as any machine holds. -/
structure RFits (x : Nat) : Prop where
  lt : x < B lim
theorem rfits_len {F : Nat → Nat} {n : Nat} (h : RFits (U F n)) (h1 : 0 < n → F (n - 1) ≠ 0) : n ≤ 4294967296 := le_lim (U_len_le h.lt h1)
theorem rfits_of {x n : Nat} (h : x < B n) (hn : n ≤ 4294967296) : RFits x := ⟨Nat.lt_of_lt_of_le h (B_le (show n ≤ lim from hn))⟩
def RMakes (w : World) (x : Nat) (e : Ending) (w' : World) : Prop := ∃ v, e = .returned v ∧ RNat w' v x ∧ Below w.heap.size w w'
theorem rnat_len0 {w : World} {a : Option Addr} {n cap x : Nat} (h : RNat w (.agg #[.slice a n cap]) x) : n = 0 ↔ x = 0 := by
  obtain ⟨F, hs, hd, h1, hv⟩ := h.open
  constructor
  · intro e
    subst e
    exact hv.symm
  · intro e
    rcases Nat.eq_zero_or_pos n with h0 | h0
    · exact h0
    · have h3 := U_ge F n h0
      have h4 : 1 * B (n - 1) ≤ F (n - 1) * B (n - 1) := Nat.mul_le_mul_right _ (by have := h1 h0; omega)
      have := B_pos (n - 1)
      omega
set_option maxHeartbeats 1000000 in
theorem rtrimmed_any (a : Option Addr) (n cap : Nat) (F : Nat → Nat) (w : World) (h : Sl w a n cap F) (hd : Dg F n) (hn : n ≤ 1099511627776) (h0 : n = 0 → a = none ∧ cap = 0) :
    Calls Tryz.prog 60 #[.slice a n cap] w (RMakes w (U F n)) := by
  have HD : Hid (Dg F n ∧ (n = 0 → a = none ∧ cap = 0)) := ⟨hd, h0⟩
  clear hd h0
  go_enter Tryz.func60, Tryz.ntmps60
  go_wp2_with fail
  go_loop [3] (fun t => ∃ k : Nat, k ≤ n ∧ t = .int .i64 k ∧ Hid (∀ i, k ≤ i → i < n → F i = 0)) (fun t => (intOf t).toNat)
  case atStart => exact ⟨n, Nat.le_refl _, rfl, fun i h1 h2 => absurd h1 (by omega)⟩
  case round =>
    obtain ⟨k, hk, rfl, hz⟩ := hrel
    have HH : Hid (Sl w a n cap F) := h
    clear h
    by_cases h0 : k = 0
    · subst h0
      by_cases hn0 : n = 0
      · subst hn0
        obtain ⟨rfl, rfl⟩ := HD.out.2 rfl
        go_wp2_with fail
        refine bodyPost_ret (v := .agg #[.slice none 0 0]) (by simp [results, Tryz.results60, go_sem]) rfl ⟨_, rfl, rnat_zero _, ?_⟩
        exact (Below.refl _ _).alloc (Nat.le_refl _) _
      · obtain ⟨b, o, rfl, hw⟩ := HH.out.at 0 (by omega)
        have hcap : (0 : Int) ≤ cap := by omega
        have hcz : ¬ cap = 0 := by have := HH.out.1; omega
        clear hw
        go_wp2_with fail
        refine bodyPost_ret (v := .agg #[.slice (some ⟨b, o, none⟩) 0 cap]) (by simp [results, Tryz.results60, go_sem]) rfl ⟨_, rfl, ⟨_, 0, cap, F, rfl, ⟨Nat.zero_le _, HH.out.2.1, fun i hi => absurd hi (by omega), .inl rfl⟩, fun i hi => absurd hi (by omega), fun e => absurd e (by omega), ?_⟩, ?_⟩
        · rw [U_zero, U_zeros fun i hi => hz.out i (Nat.zero_le _) hi]
        · exact (Below.refl _ _).alloc (Nat.le_refl _) _
    · obtain ⟨b, o, rfl, hw⟩ := HH.out.at (k - 1) (by omega)
      have hc : (w.alloc (.cells #[.slice none 0 0] 30)).cell? ⟨b, o + (k - 1), none⟩ = some (.int .u64 (F (k - 1) : Nat)) := cell_later ((Below.refl _ _).alloc (Nat.le_refl _) _) (hw (k - 1) (by omega))
      have h0' : (0 : Int) < k := by omega
      clear hw
      by_cases hf : F (k - 1) = 0
      · rw [hf] at hc
        go_wp2_with fail
        go_round
        case rel =>
          refine ⟨k - 1, by omega, by go_num, fun i h1 h2 => ?_⟩
          by_cases e : i = k - 1
          · rw [e, hf]
          · exact hz.out i (by omega) h2
        case measure => simp [intOf]; omega
      · have hne : (((F (k - 1) : Nat) : Int) == 0) = false := by simp; omega
        have hk0 : ((k : Int) == 0) = false := by simp; omega
        have hcap : (k : Int) ≤ cap := by have := HH.out.1; omega
        go_wp2_with fail
        have rn : RNat w (.agg #[.slice (some ⟨b, o, none⟩) k cap]) (U F n) := by
          obtain ⟨s1, s2, s3, s4⟩ := HH.out
          obtain ⟨b2, o2, e2, hw2⟩ : ∃ b2 o2, some (⟨b, o, none⟩ : Addr) = some ⟨b2, o2, none⟩ ∧ Words w b2 o2 n F := s4.resolve_left (by omega)
          exact ⟨_, k, cap, F, rfl, ⟨by omega, s2, s3.mono hk, .inr ⟨b2, o2, e2, fun i hi => hw2 i (by omega)⟩⟩, HD.out.1.mono hk, fun _ => hf, (U_top hk hz.out).symm⟩
        refine bodyPost_ret (v := .agg #[.slice (some ⟨b, o, none⟩) k cap]) (by simp [results, Tryz.results60, go_sem]) rfl ⟨_, rfl, rn.mono ((Below.refl _ _).alloc (Nat.le_refl _) _), (Below.refl _ _).alloc (Nat.le_refl _) _⟩
set_option maxHeartbeats 1000000 in
theorem rdigit_any (a : Option Addr) (n cap : Nat) (F : Nat → Nat) (i : Nat) (w : World) (h : Sl w a n cap F) (hi : i ≤ 4611686018427387904) :
    Calls Tryz.prog 89 #[.slice a n cap, .int .i64 (i : Int)] w fun e w' => e = .returned (.int .u64 ((cutU F n 0 i : Nat) : Int)) ∧ w' = w := by
  have hc0 : (n : Int) ≤ 9223372036854775807 := by have := h.1; have := h.2.1; omega
  have hneg : decide ((i : Int) < 0) = false := decide_eq_false (by omega)
  by_cases hin : i < n
  · obtain ⟨b, o, rfl, hw⟩ := h.at i hin
    have hc := hw i hin
    have hd : decide (n ≤ i) = false := decide_eq_false (by omega)
    have HC : Hid (cutU F n 0 i = F i) := by show _ = _; rw [cutU_in (by omega), Nat.zero_add]
    clear hw h
    go_enter Tryz.func89, Tryz.ntmps89
    go_wp2_with fail
    go_ret
    exact ⟨ret_int (by rw [HC.out]), rfl⟩
  · have hd : decide (n ≤ i) = true := decide_eq_true (by omega)
    have HC : Hid (cutU F n 0 i = 0) := cutU_out (by omega)
    clear h
    go_enter Tryz.func89, Tryz.ntmps89
    go_wp2_with fail
    go_ret
    exact ⟨ret_int (by rw [HC.out]; rfl), rfl⟩
set_option maxHeartbeats 1000000 in
theorem rzero_any (v : Value) (x : Nat) (w : World) (h : RNat w v x) (hx : RFits x) :
    Calls Tryz.prog 59 #[v] w fun e w' => e = .returned (.bool (decide (x = 0))) ∧ Below w.heap.size w w' := by
  obtain ⟨a, n, cap, rfl⟩ := h.isAgg
  have hz := rnat_len0 h
  have hl : n ≤ 4294967296 := by
    obtain ⟨F, hs, hd, h1, hv⟩ := h.open
    exact rfits_len (hv.symm ▸ hx) h1
  by_cases hn : n = 0
  · have HX : Hid (decide (x = 0) = true) := decide_eq_true (hz.1 hn)
    subst hn
    clear hz h hx
    go_enter Tryz.func59, Tryz.ntmps59
    go_wp2_with fail
    go_ret
    exact ⟨by rw [HX.out]; rfl, (Below.refl _ _).alloc (Nat.le_refl _) _⟩
  · have HX : Hid (decide (x = 0) = false) := decide_eq_false fun e => hn (hz.2 e)
    have hb : ((n : Int) == 0) = false := by simp; omega
    clear hz h hx
    go_enter Tryz.func59, Tryz.ntmps59
    go_wp2_with fail
    go_ret
    exact ⟨by rw [HX.out]; rfl, (Below.refl _ _).alloc (Nat.le_refl _) _⟩
def two (x y : Nat) (i : Nat) : Nat := if i = 0 then x else y
theorem sl_two (w : World) (x y g : Nat) (zx zy : Int) (ex : zx = (x : Int)) (ey : zy = (y : Int)) (hx : x < 18446744073709551616) (hy : y < 18446744073709551616) (hg : g = w.heap.size) (t : TypeId) : Sl (w.alloc (.cells #[.int .u64 zx, .int .u64 zy] t)) (some ⟨g, 0, none⟩) 2 2 (two x y) := by
  subst ex ey hg
  refine ⟨Nat.le_refl _, by omega, fun i hi => by unfold two; split <;> assumption, .inr ⟨_, 0, rfl, fun i hi => ?_⟩⟩
  rcases i with _ | _ | i
  · simp [two]
  · simp [two]
  · omega
set_option maxHeartbeats 1000000 in
theorem rof_any (n : Nat) (w : World) (hn : n < 18446744073709551616) : Calls Tryz.prog 17 #[.int .u64 (n : Int)] w (RMakes w n) := by
  have hz : ((4294967296 : Int) == 0) = false := by decide
  go_enter Tryz.func17, Tryz.ntmps17
  go_wp2_with fail
  refine (rtrimmed_any _ 2 2 (two (n % 4294967296) (n / 4294967296)) _ (sl_two _ _ _ _ _ _ (by simp) (by simp) (by omega) (by omega) (by simp) _) (fun i hi => by unfold two; split <;> omega) (by omega) (fun e => by omega)).mono ?_
  rintro e w1 ⟨v, rfl, hv, hb⟩
  have hc : w1.cell? ⟨w.heap.size, 0, none⟩ = some (.slice none 0 0) := cell_later hb (by simp [go_sem])
  have hf : w1.frozen? ⟨w.heap.size, 0, none⟩ = false := (hb.frozen (by simp; omega)).trans (by simp [go_sem])
  have HBB : Hid (Below w.heap.size w w1) := (bel_alloc2 _ _ _).trans (hb.mono (by simp; omega))
  obtain ⟨a', n', cap', rfl⟩ := hv.isAgg
  have e2 : U (two (n % 4294967296) (n / 4294967296)) 2 = n := by
    rw [U_succ, U_succ, U_zero, B_zero, B_one]
    show 0 + n % 4294967296 * 1 + n / 4294967296 * 4294967296 = n
    omega
  rw [e2] at hv
  have HV : Hid _ := hv
  clear hb hv e2 hz
  go_wp2_with fail
  refine bodyPost_ret (v := .agg #[.slice a' n' cap']) (by simp [results, Tryz.results17, go_sem, hc]) rfl ⟨_, rfl, ?_, HBB.out.setCell (Nat.le_refl _) _⟩
  have hx : RNat w1 (.agg #[.slice a' n' cap']) n := HV.out
  exact hx.setCell (no_int_slice hc) _
end Go.Proofs.YtmiiaomdenpceaaGreatDoor

namespace Go.Proofs.YtmiiaomdenpceaaGreatDoor
open Go.RowKit
set_option maxRecDepth 100000
set_option linter.unusedVariables false
theorem U_div {F : Nat → Nat} {n : Nat} (h : Dg F n) : U F (n + 1) / B n = F n := by
  rw [U_succ, Nat.add_mul_div_right _ _ (B_pos n), Nat.div_eq_of_lt (U_lt h), Nat.zero_add]
theorem bitLen_U {F : Nat → Nat} {n : Nat} (h : Dg F (n + 1)) (h0 : F n ≠ 0) : bitLen (U F (n + 1)) = 32 * n + bitLen (F n) := by
  have h1 := U_div (h.mono (Nat.le_succ n))
  rw [B_two] at h1
  rw [bitLen_shift _ (32 * n) (by rw [h1]; exact h0), h1]
theorem bitLen_half {q : Nat} (h : q ≠ 0) : bitLen q = bitLen (q / 2) + 1 := by
  rcases Nat.lt_or_ge q 2 with h2 | h2
  · obtain rfl : q = 1 := by omega
    rfl
  · have := bitLen_shift q 1 (by rw [Nat.pow_one]; omega)
    rw [Nat.pow_one] at this
    omega
set_option maxHeartbeats 1000000 in
theorem rlen_any (v : Value) (x : Nat) (w : World) (h : RNat w v x) (hx : RFits x) :
    Calls Tryz.prog 49 #[v] w fun e w' => e = .returned (.int .i64 ((bitLen x : Nat) : Int)) ∧ Below w.heap.size w w' := by
  obtain ⟨a, n, cap, rfl⟩ := h.isAgg
  obtain ⟨F, hs, hd, h1, hv⟩ := h.open
  have hl : n ≤ 4294967296 := rfits_len (hv.symm ▸ hx) h1
  by_cases hn : n = 0
  · have HX : Hid (bitLen x = 0) := by
      show _ = _
      rw [(rnat_len0 h).1 hn, bitLen_zero]
    subst hn
    clear hs hd h1 hv h hx
    go_enter Tryz.func49, Tryz.ntmps49
    go_wp2_with fail
    go_ret
    exact ⟨ret_int (by rw [HX.out]; rfl), (Below.refl _ _).alloc (Nat.le_refl _) _⟩
  · obtain ⟨m, rfl⟩ : ∃ m, n = m + 1 := ⟨n - 1, by omega⟩
    have hF : F m ≠ 0 := by have := h1 (by omega); simpa using this
    have HX : Hid (bitLen x = 32 * m + bitLen (F m)) := by
      show _ = _
      rw [← hv, bitLen_U hd hF]
    obtain ⟨b, o, rfl, hw⟩ := hs.at m (by omega)
    have hc := hw m (by omega)
    have hlt : b < w.heap.size := World.block_lt_of_cell? _ _ hc
    have hFm : F m < 4294967296 := hd m (by omega)
    have hb64 := bitLen_le64 (F m) (by omega)
    have hm0 : (((m + 1 : Nat) : Int) == 0) = false := by simp; omega
    have hm1 : ((m : Int) + 1 == 0) = false := by simp; omega
    clear hs hd h1 hv h hx hw hn
    go_enter Tryz.func49, Tryz.ntmps49
    go_wp2_with fail
    go_loop [3, 4] (fun t q => ∃ (k z : Nat), t = .int .i64 ((32 * m + k : Nat) : Int) ∧ q = .int .u64 (z : Int) ∧ Hid (bitLen (F m) = k + bitLen z) ∧ k ≤ 64 ∧ z < 4294967296) (fun _ q => (intOf q).toNat)
    case atStart => exact ⟨0, F m, by go_num, rfl, (Nat.zero_add _).symm, by omega, hFm⟩
    case round =>
      obtain ⟨k, z, rfl, rfl, hk, hk64, hz⟩ := hrel
      by_cases h0 : z = 0
      · subst h0
        have HK : Hid (bitLen x = 32 * m + k) := by
          show _ = _
          rw [HX.out, hk.out, bitLen_zero, Nat.add_zero]
        go_wp2_with fail
        go_ret
        exact ⟨ret_int (by rw [HK.out]; omega), (Below.refl _ _).alloc (Nat.le_refl _) _⟩
      · have hz0 : (0 : Int) < (z : Int) := by omega
        have hh := bitLen_half h0
        have hkb := hk.out
        have hk2 : k + 1 ≤ 64 := by omega
        have HK : Hid (bitLen (F m) = k + 1 + bitLen (z / 2)) := by
          show _ = _
          omega
        clear hh hkb
        go_wp2_with fail
        go_round
        case rel => exact ⟨k + 1, z / 2, by go_num, by go_num, HK.out, hk2, by omega⟩
        case measure => simp [intOf]; omega
end Go.Proofs.YtmiiaomdenpceaaGreatDoor

namespace Go.Proofs.YtmiiaomdenpceaaGreatDoor
open Go.RowKit
set_option maxRecDepth 100000
set_option linter.unusedVariables false
theorem U_cut {G : Nat → Nat} {m n : Nat} (h : m ≤ n) : U (cutU G m 0) n = U G m := by
  rw [U_top h fun i h1 h2 => cutU_out (by omega)]
  exact U_congr fun i hi => by rw [cutU_in (by omega), Nat.zero_add]
theorem dg_cut {G : Nat → Nat} {m : Nat} (hG : Dg G m) (i : Nat) : cutU G m 0 i < 4294967296 := by
  by_cases h : 0 + i < m
  · rw [cutU_in h]; exact hG _ h
  · rw [cutU_out h]; omega
/-- i digits of a sum are made, c is carried. -/
structure Pl (w0 wr : World) (v : Value) (F : Nat → Nat) (n : Nat) (G : Nat → Nat) (m i c : Nat) (H : Nat → Nat) : Prop where
  own : OR wr 23 w0.heap.size v i (wd H)
  dg : Dg H i
  sum : U H i + c * B i = U (cutU F n 0) i + U (cutU G m 0) i
  car : c ≤ 1
  bel : Below w0.heap.size w0 wr
theorem cell_new (w : World) (u : Value) (t : TypeId) : (w.alloc (.cells #[u] t)).cell? ⟨w.heap.size, 0, none⟩ = some u := by simp [go_sem]
theorem pl_sum {H : Nat → Nat} {F G i c s f g b : Nat} (hs : s = f + g + c) (h : H i = s % 4294967296) (e : F + c * b = G) : F + s % 4294967296 * b + s / 4294967296 * (b * 4294967296) = G + f * b + g * b := by
  have h1 := Nat.div_add_mod s 4294967296
  have h2 : s * b = (4294967296 * (s / 4294967296) + s % 4294967296) * b := by rw [h1]
  rw [hs] at h2 ⊢
  grind
theorem OR.blk {w : World} {e : TypeId} {base n : Nat} {v : Value} {G : Nat → Value} (h : OR w e base v n G) : ∀ j, v.ownBlock = some j → base ≤ j := by
  intro j hj
  rcases h with ⟨rfl, rfl⟩ | ⟨g, cap, f, rfl, h1, _⟩
  · simp [Value.ownBlock] at hj
  · simp only [Value.ownBlock, Option.some.injEq] at hj
    omega
theorem Pl.step {w0 wr w2 : World} {v v2 : Value} {F G H : Nat → Nat} {n m i c f g : Nat} (h : Pl w0 wr v F n G m i c H) (hf : f = cutU F n 0 i ∧ g = cutU G m 0 i) (lf : f < 4294967296) (lg : g < 4294967296)
    (ho : OR w2 23 w0.heap.size v2 (i + 1) (fun j => if j = i then .int .u64 (((f : Int) + g + c) % 4294967296) else wd H j)) (hb : Below w0.heap.size w0 w2) :
    Pl w0 w2 v2 F n G m (i + 1) ((f + g + c) / 4294967296) (put H i ((f + g + c) % 4294967296)) := by
  refine ⟨OR.congr ho fun j hj => ?_, fun j hj => ?_, ?_, ?_, hb⟩
  · unfold wd put
    split
    · congr 1
    · rfl
  · unfold put
    split
    · exact Nat.mod_lt _ (by decide)
    · exact h.dg j (by omega)
  · rw [U_succ, U_succ, U_succ, put_same, U_congr (F := put H i _) (G := H) fun j hj => put_other _ _ (by omega), ← hf.1, ← hf.2, B_succ]
    have := pl_sum (H := fun _ => (f + g + c) % 4294967296) (i := 0) (s := f + g + c) (f := f) (g := g) rfl rfl h.sum
    omega
  · have := h.car
    omega
theorem Pl.done {w0 wr : World} {v : Value} {F G H : Nat → Nat} {n m mx c : Nat} (h : Pl w0 wr v F n G m (mx + 1) c H) (hn : n ≤ mx) (hm : m ≤ mx) (dF : Dg F n) (dG : Dg G m) : U H (mx + 1) = U F n + U G m := by
  have h1 := h.sum
  rw [U_cut (by omega), U_cut (by omega)] at h1
  have h2 := Nat.lt_of_lt_of_le (U_lt dF) (B_le hn)
  have h3 := Nat.lt_of_lt_of_le (U_lt dG) (B_le hm)
  have h4 := B_succ mx
  have h5 : c = 0 ∨ c = 1 := by have := h.car; omega
  rcases h5 with rfl | rfl <;> omega
end Go.Proofs.YtmiiaomdenpceaaGreatDoor

namespace Go.Proofs.YtmiiaomdenpceaaGreatDoor
open Go.RowKit
set_option maxRecDepth 100000
set_option linter.unusedVariables false
/-- A number stays where another block is written. -/
theorem RNat.stay {w w' : World} {b o k c x g : Nat} (h : RNat w (.agg #[.slice (some ⟨b, o, none⟩) k c]) x) (hg : w.grownBy w' (some g)) (hne : b ≠ g) : RNat w' (.agg #[.slice (some ⟨b, o, none⟩) k c]) x := by
  obtain ⟨F, ⟨s1, s2, s3, s4⟩, hd, h1, hv⟩ := h.open
  refine ⟨_, k, c, F, rfl, ⟨s1, s2, s3, ?_⟩, hd, h1, hv⟩
  rcases s4 with e | ⟨b', o', e, hw⟩
  · exact .inl e
  · cases e
    exact .inr ⟨b, o, rfl, fun i hi => hg.cell (hw i hi) (by simp only [ne_eq, Option.some.injEq]; exact hne)⟩
set_option maxHeartbeats 1000000 in
theorem rtrimmed_at (a : Option Addr) (n cap : Nat) (F : Nat → Nat) (w : World) (h : Sl w a n cap F) (hd : Dg F n) (hn : n ≤ 1099511627776) (hn0 : n ≠ 0) :
    Calls Tryz.prog 60 #[.slice a n cap] w fun e w' => ∃ k, e = .returned (.agg #[.slice a k cap]) ∧ RNat w' (.agg #[.slice a k cap]) (U F n) ∧ Below w.heap.size w w' := by
  have HD : Hid (Dg F n ∧ True) := ⟨hd, trivial⟩
  clear hd
  go_enter Tryz.func60, Tryz.ntmps60
  go_wp2_with fail
  go_loop [3] (fun t => ∃ k : Nat, k ≤ n ∧ t = .int .i64 k ∧ Hid (∀ i, k ≤ i → i < n → F i = 0)) (fun t => (intOf t).toNat)
  case atStart => exact ⟨n, Nat.le_refl _, rfl, fun i h1 h2 => absurd h1 (by omega)⟩
  case round =>
    obtain ⟨k, hk, rfl, hz⟩ := hrel
    have HH : Hid (Sl w a n cap F) := h
    clear h
    by_cases h0 : k = 0
    · subst h0
      obtain ⟨b, o, rfl, hw⟩ := HH.out.at 0 (by omega)
      have hcap : (0 : Int) ≤ cap := by omega
      have hcz : ¬ cap = 0 := by have := HH.out.1; omega
      clear hw
      go_wp2_with fail
      refine bodyPost_ret (v := .agg #[.slice (some ⟨b, o, none⟩) 0 cap]) (by simp [results, Tryz.results60, go_sem]) rfl ⟨_, rfl, ⟨_, 0, cap, F, rfl, ⟨Nat.zero_le _, HH.out.2.1, fun i hi => absurd hi (by omega), .inl rfl⟩, fun i hi => absurd hi (by omega), fun e => absurd e (by omega), ?_⟩, ?_⟩
      · rw [U_zero, U_zeros fun i hi => hz.out i (Nat.zero_le _) hi]
      · exact (Below.refl _ _).alloc (Nat.le_refl _) _
    · obtain ⟨b, o, rfl, hw⟩ := HH.out.at (k - 1) (by omega)
      have hc : (w.alloc (.cells #[.slice none 0 0] 30)).cell? ⟨b, o + (k - 1), none⟩ = some (.int .u64 (F (k - 1) : Nat)) := cell_later ((Below.refl _ _).alloc (Nat.le_refl _) _) (hw (k - 1) (by omega))
      have h0' : (0 : Int) < k := by omega
      clear hw
      by_cases hf : F (k - 1) = 0
      · rw [hf] at hc
        go_wp2_with fail
        go_round
        case rel =>
          refine ⟨k - 1, by omega, by go_num, fun i h1 h2 => ?_⟩
          by_cases e : i = k - 1
          · rw [e, hf]
          · exact hz.out i (by omega) h2
        case measure => simp [intOf]; omega
      · have hne : (((F (k - 1) : Nat) : Int) == 0) = false := by simp; omega
        have hk0 : ((k : Int) == 0) = false := by simp; omega
        have hcap : (k : Int) ≤ cap := by have := HH.out.1; omega
        go_wp2_with fail
        have rn : RNat w (.agg #[.slice (some ⟨b, o, none⟩) k cap]) (U F n) := by
          obtain ⟨s1, s2, s3, s4⟩ := HH.out
          obtain ⟨b2, o2, e2, hw2⟩ : ∃ b2 o2, some (⟨b, o, none⟩ : Addr) = some ⟨b2, o2, none⟩ ∧ Words w b2 o2 n F := s4.resolve_left (by omega)
          exact ⟨_, k, cap, F, rfl, ⟨by omega, s2, s3.mono hk, .inr ⟨b2, o2, e2, fun i hi => hw2 i (by omega)⟩⟩, HD.out.1.mono hk, fun _ => hf, (U_top hk hz.out).symm⟩
        refine bodyPost_ret (v := .agg #[.slice (some ⟨b, o, none⟩) k cap]) (by simp [results, Tryz.results60, go_sem]) rfl ⟨_, rfl, rn.mono ((Below.refl _ _).alloc (Nat.le_refl _) _), (Below.refl _ _).alloc (Nat.le_refl _) _⟩
end Go.Proofs.YtmiiaomdenpceaaGreatDoor

namespace Go.Proofs.YtmiiaomdenpceaaGreatDoor
open Go.RowKit
set_option maxRecDepth 100000
set_option linter.unusedVariables false
/-- The value of i bytes, the lowest first. -/
def TV (E : Nat → Nat) : Nat → Nat
  | 0 => 0
  | n + 1 => TV E n + E n * 256 ^ n
theorem TV_cons (E : Nat → Nat) : ∀ n, TV E (n + 1) = E 0 + 256 * TV (fun j => E (j + 1)) n
  | 0 => by simp [TV]
  | n + 1 => by
    rw [TV, TV_cons E n, TV, Nat.pow_succ]
    grind
theorem TV_congr {E G : Nat → Nat} : ∀ {n : Nat}, (∀ i, i < n → E i = G i) → TV E n = TV G n
  | 0, _ => rfl
  | n + 1, h => by rw [TV, TV, TV_congr fun i hi => h i (by omega), h n (by omega)]
theorem TV_BV (D : Nat → Nat) : ∀ n, TV (fun j => D (n - 1 - j)) n = BV D n
  | 0 => rfl
  | n + 1 => by
    rw [TV_cons, BV, ← TV_BV D n]
    have : TV (fun j => D (n + 1 - 1 - (j + 1))) n = TV (fun j => D (n - 1 - j)) n := TV_congr fun i hi => by rw [show n + 1 - 1 - (i + 1) = n - 1 - i by omega]
    rw [this]
    simp
    omega
theorem U_put_add (H : Nat → Nat) (q N e : Nat) (hq : q < N) : U (put H q (H q + e)) N = U H N + e * B q := by
  obtain ⟨t, rfl⟩ : ∃ t, N = q + 1 + t := ⟨N - (q + 1), by omega⟩
  rw [U_split _ (q + 1), U_split H (q + 1), U_succ, U_succ, put_same, U_congr (F := put H q (H q + e)) (G := H) (n := q) fun i hi => put_other _ _ (by omega),
    U_congr (F := fun i => put H q (H q + e) (q + 1 + i)) (G := fun i => H (q + 1 + i)) fun i hi => put_other _ _ (by omega), Nat.add_mul]
  omega
theorem B_256 (n : Nat) : B n = 256 ^ (4 * n) := by
  unfold B
  rw [show (4294967296 : Nat) = 256 ^ 4 from rfl, ← Nat.pow_mul]
/-- i bytes are laid. -/
def RFil (E : Nat → Nat) (N i : Nat) (H : Nat → Nat) : Prop := U H N = TV E i ∧ ∀ q, q < N → H q < 256 ^ (min 4 (i - 4 * q))
theorem rfil_start (E : Nat → Nat) (N : Nat) : RFil E N 0 (fun _ => 0) := ⟨U_zeros fun _ _ => rfl, fun q _ => by simp⟩
theorem RFil.low {E : Nat → Nat} {N i : Nat} {H : Nat → Nat} (h : RFil E N i H) (hN : i / 4 < N) : H (i / 4) < 256 ^ (i % 4) := by
  have := h.2 (i / 4) hN
  rwa [show min 4 (i - 4 * (i / 4)) = i % 4 by omega] at this
theorem low_add {h d r : Nat} (hh : h < 256 ^ r) (hd : d < 256) : h + d * 256 ^ r < 256 ^ (r + 1) := by
  have : (d + 1) * 256 ^ r ≤ 256 * 256 ^ r := Nat.mul_le_mul_right _ hd
  rw [Nat.pow_succ, Nat.mul_comm (256 ^ r)]
  rw [Nat.add_mul] at this
  omega
theorem RFil.step {E : Nat → Nat} {N i : Nat} {H : Nat → Nat} (h : RFil E N i H) (hN : i / 4 < N) (hE : E i < 256) : RFil E N (i + 1) (put H (i / 4) (H (i / 4) + E i * 256 ^ (i % 4))) := by
  have hl := h.low hN
  refine ⟨?_, fun q hq => ?_⟩
  · rw [U_put_add _ _ _ _ hN, h.1, TV, B_256, Nat.mul_assoc, ← Nat.pow_add, show i % 4 + 4 * (i / 4) = i by omega]
  · by_cases e : q = i / 4
    · subst e
      rw [put_same, show min 4 (i + 1 - 4 * (i / 4)) = i % 4 + 1 by omega]
      exact low_add hl hE
    · rw [put_other _ _ e]
      refine Nat.lt_of_lt_of_le (h.2 q hq) (Nat.pow_le_pow_right (by decide) (by omega))
theorem RFil.dg {E : Nat → Nat} {N i : Nat} {H : Nat → Nat} (h : RFil E N i H) : Dg H N := fun q hq => by
  have h1 := h.2 q hq
  have h2 : (256 : Nat) ^ (min 4 (i - 4 * q)) ≤ 256 ^ 4 := Nat.pow_le_pow_right (by decide) (by omega)
  have h3 : (256 : Nat) ^ 4 = 4294967296 := by decide
  omega
theorem shl_byte (d r : Nat) (hd : d < 256) (hr : r < 4) : IntKind.u64.wrap ((d : Int) * 2 ^ (8 * r)) = ((d * 256 ^ r : Nat) : Int) := by
  have h2 := (byte_shift_lt d r hd (by omega)).2
  have e : (d : Int) * 2 ^ (8 * r) = ((d * 256 ^ r : Nat) : Int) := by rw [pow256, Int.natCast_mul, cast_pow2, Nat.mul_comm r 8]
  rw [e, wrapU_nat _ h2]
set_option maxHeartbeats 2000000 in
theorem rfromBytes_any (a : Option Addr) (n cap : Nat) (D : Nat → Nat) (w : World) (h : BSl w a n cap D) (hn : n ≤ 1099511627776) :
    Calls Tryz.prog 41 #[.slice a n cap] w (RMakes w (BV D n)) := by
  have HD : Hid (BSl w a n cap D) := h
  clear h
  have mk := make_at ((n : Int) / 4 + 1) ((n : Int) / 4 + 1) (n / 4 + 1) (n / 4 + 1) (by omega) (by omega) (Nat.le_refl _) (by omega)
  go_enter Tryz.func41, Tryz.ntmps41
  go_wp2_with fail
  go_loopw [4] (fun t wr => ∃ (i : Nat) (H : Nat → Nat), i ≤ n ∧ t = .int .i64 (i : Int) ∧ Hid (Row wr (w.heap.size + 1) (n / 4 + 1) H ∧ RFil (fun j => D (n - 1 - j)) (n / 4 + 1) i H ∧ ((w.alloc (.cells #[.slice none 0 0] 30)).alloc (.cells (zeros (n / 4 + 1)) 23)).grownBy wr (some (w.heap.size + 1)))) (fun t _ => n - (intOf t).toNat)
  case atStart => exact ⟨0, fun _ => 0, by omega, rfl, ⟨row_zeros_at _ _ _ (by simp), rfil_start _ _, World.grownBy.refl _ _⟩⟩
  case round =>
    clear mk
    obtain ⟨i, H, hi, rfl, HH⟩ := hrel
    by_cases him : i < n
    · obtain ⟨b, o, rfl, hw⟩ : ∃ b o, a = some ⟨b, o, none⟩ ∧ ∀ i, i < n → w.cell? ⟨b, o + i, none⟩ = some (.int .u8 (D i : Nat)) := HD.out.2.2.2.resolve_left (by omega)
      have hlt := World.block_lt_of_cell? _ _ (hw i him)
      have hcb : wr.cell? ⟨b, o + (n - 1 - i), none⟩ = some (.int .u8 (D (n - 1 - i) : Nat)) := HH.out.2.2.cell (cell_later (bel_alloc2 _ _ _) (hw (n - 1 - i) (by omega))) (by simp only [ne_eq, Option.some.injEq]; simp at hlt; omega)
      have hcw : wr.cell? ⟨w.heap.size + 1, i / 4, none⟩ = some (.int .u64 (H (i / 4) : Nat)) := HH.out.1.cell (by omega)
      have hfw : wr.frozen? ⟨w.heap.size + 1, i / 4, none⟩ = false := HH.out.1.frozen _
      have hD : D (n - 1 - i) < 256 := HD.out.2.2.1 _ (by omega)
      have him' : (i : Int) < n := by omega
      have hidx : (n : Int) - 1 - (i : Int) = ((n - 1 - i : Nat) : Int) := by omega
      have hsh := shl_byte (D (n - 1 - i)) (i % 4) hD (by omega)
      have hl := HH.out.2.1.low (show i / 4 < n / 4 + 1 by omega)
      have hla := low_add hl hD
      have h5 : (256 : Nat) ^ (i % 4 + 1) ≤ 256 ^ 4 := Nat.pow_le_pow_right (by decide) (by omega)
      have h6 : (256 : Nat) ^ 4 = 4294967296 := by decide
      have hlt2 : H (i / 4) + D (n - 1 - i) * 256 ^ (i % 4) < 18446744073709551616 := by omega
      have had : IntKind.u64.wrap (((H (i / 4) : Nat) : Int) + ((D (n - 1 - i) * 256 ^ (i % 4) : Nat) : Int)) = ((H (i / 4) + D (n - 1 - i) * 256 ^ (i % 4) : Nat) : Int) := by
        rw [← Int.natCast_add]
        exact wrapU_nat _ hlt2
      have S : Hid _ := And.intro (HH.out.1.set (i / 4) hlt2) (And.intro (HH.out.2.1.step (show i / 4 < n / 4 + 1 by omega) hD) (grown_set _ HH.out.2.2 (i / 4) (.int .u64 ((H (i / 4) + D (n - 1 - i) * 256 ^ (i % 4) : Nat) : Int))))
      have HW : Hid (IntKind.u64.wrap ((D (n - 1 - i) : Nat) : Int) = ((D (n - 1 - i) : Nat) : Int)) := wrapU_nat _ (by omega)
      clear hw hl hla h5 h6 hlt2 hD
      go_wp2_with fail
      go_region
      go_wp2_with fail
      rw [HW.out, hsh, had]
      go_roundw
      case rel => exact ⟨i + 1, _, by omega, by go_num, ⟨S.out.1, S.out.2.1, grown_drew S.out.2.2 1⟩⟩
      case measure => simp [intOf]; omega
    · obtain rfl : i = n := by omega
      have hcr : wr.cell? ⟨w.heap.size, 0, none⟩ = some (.slice none 0 0) := HH.out.2.2.cell (by simp [go_sem]) (by simp)
      have hfr : wr.frozen? ⟨w.heap.size, 0, none⟩ = false := (World.frozen?_of_block (HH.out.2.2.block _ (by simp <;> omega) (by simp))).trans (by simp [go_sem])
      have B0 : Hid (Below w.heap.size w wr) := (bel_alloc2 _ _ _).grown HH.out.2.2 (by simp <;> omega) (fun k hk => by cases hk; omega)
      go_wp2_with fail
      refine (rtrimmed_any _ (i / 4 + 1) (i / 4 + 1) H wr (by have := HH.out.1.sl (o := 0) (n := i / 4 + 1) (cap := i / 4 + 1) (by omega) (Nat.le_refl _) (by omega); rw [fro_zero] at this; exact this) HH.out.2.1.dg (by omega) (fun e => absurd e (by omega))).mono ?_
      rintro e w3 ⟨v3, rfl, hv3, hb3⟩
      rw [HH.out.2.1.1, TV_BV] at hv3
      have hcr3 : w3.cell? ⟨w.heap.size, 0, none⟩ = some (.slice none 0 0) := cell_later hb3 hcr
      have hfr3 : w3.frozen? ⟨w.heap.size, 0, none⟩ = false := (hb3.frozen (World.block_lt_of_cell? _ _ hcr)).trans hfr
      obtain ⟨a3, n3, cap3, rfl⟩ := hv3.isAgg
      have HV3 : Hid (RNat w3 (.agg #[.slice a3 n3 cap3]) (BV D i)) := hv3
      have B3 : Hid (Below w.heap.size w w3) := bel_go B0.out hb3
      clear hv3 hb3 hcr hfr
      go_wp2_with fail
      refine bodyPost_ret (v := .agg #[.slice a3 n3 cap3]) (by simp [results, Tryz.results41, go_sem, hcr3]) rfl ⟨_, rfl, ?_, B3.out.setCell (Nat.le_refl _) _⟩
      exact HV3.out.setCell (no_int_slice hcr3) _
end Go.Proofs.YtmiiaomdenpceaaGreatDoor

namespace Go.Proofs.YtmiiaomdenpceaaGreatDoor
open Go.RowKit
set_option maxRecDepth 100000
set_option linter.unusedVariables false
/-- The number of the digits from the i-th on. -/
def Tp (F : Nat → Nat) (n i : Nat) : Nat := U (fun j => F (i + j)) (n - i)
theorem Tp_top (F : Nat → Nat) (n : Nat) : Tp F n n = 0 := by rw [Tp, Nat.sub_self, U_zero]
theorem Tp_all (F : Nat → Nat) (n : Nat) : Tp F n 0 = U F n := by
  rw [Tp, Nat.sub_zero]
  exact U_congr fun j hj => by rw [Nat.zero_add]
theorem Tp_step (F : Nat → Nat) {n i : Nat} (h : i < n) : Tp F n i = F i + 4294967296 * Tp F n (i + 1) := by
  unfold Tp
  rw [show n - i = 1 + (n - (i + 1)) by omega, U_split, B_one, U_succ, U_zero, B_zero, Nat.zero_add, Nat.mul_one, Nat.add_zero]
  congr 2
  exact U_congr fun j hj => by rw [show i + (1 + j) = i + 1 + j by omega]
theorem Tp_congr {F G : Nat → Nat} {n i : Nat} (h : ∀ j, i ≤ j → j < n → F j = G j) : Tp F n i = Tp G n i := U_congr fun j hj => h _ (by omega) (by omega)
theorem small_lt {r f d : Nat} (hr : r < d) (hf : f < 4294967296) : (r * 4294967296 + f) / d < 4294967296 := by
  refine (Nat.div_lt_iff_lt_mul (by omega)).2 ?_
  have : (r + 1) * 4294967296 ≤ d * 4294967296 := Nat.mul_le_mul_right _ hr
  omega
theorem small_eq {f T Q r d s : Nat} (h : T = Q * d + r) (hs : s = r * 4294967296 + f) : f + 4294967296 * T = (s / d + 4294967296 * Q) * d + s % d := by
  have h1 := Nat.div_add_mod s d
  have h2 : 4294967296 * T = 4294967296 * (Q * d + r) := by rw [h]
  grind
/-- The digits from the i-th on are divided. -/
structure Sm (F : Nat → Nat) (n d i r : Nat) (H : Nat → Nat) : Prop where
  eq : Tp F n i = Tp H n i * d + r
  lt : r < d
  dg : ∀ j, i ≤ j → j < n → H j < 4294967296
theorem Sm.step {F H : Nat → Nat} {n d i r : Nat} (h : Sm F n d (i + 1) r H) (hi : i < n) (hf : F i < 4294967296) : Sm F n d i ((r * 4294967296 + F i) % d) (put H i ((r * 4294967296 + F i) / d)) := by
  refine ⟨?_, Nat.mod_lt _ (Nat.lt_of_le_of_lt (Nat.zero_le _) h.lt), fun j h1 h2 => ?_⟩
  · rw [Tp_step F hi, Tp_step _ hi, put_same, Tp_congr (F := put H i _) (G := H) fun j h1 h2 => put_other _ _ (by omega)]
    exact small_eq h.eq rfl
  · unfold put
    split
    · exact small_lt h.lt hf
    · exact h.dg j (by omega) h2
theorem Sm.done {F H : Nat → Nat} {n d r : Nat} (h : Sm F n d 0 r H) : U H n = U F n / d ∧ r = U F n % d := by
  have h1 := h.eq
  rw [Tp_all, Tp_all] at h1
  have h2 := h.lt
  have h3 : 0 < d := by omega
  rw [h1, Nat.mul_comm (U H n) d]
  constructor
  · rw [Nat.mul_add_div h3, Nat.div_eq_of_lt h2, Nat.add_zero]
  · rw [Nat.mul_add_mod, Nat.mod_eq_of_lt h2]
set_option maxHeartbeats 2000000 in
theorem rsmall_at (ax : Option Addr) (n cap x d : Nat) (w : World) (h : RNat w (.agg #[.slice ax n cap]) x) (hx : RFits x) (hd0 : 0 < d) (hd1 : d < 4294967296) (hx0 : x ≠ 0) :
    Calls Tryz.prog 97 #[.agg #[.slice ax n cap], .int .u64 (d : Int)] w fun e w' => ∃ k, e = .returned (.tuple #[.agg #[.slice (some ⟨w.heap.size + 1 + 1, 0, none⟩) k n], .int .u64 ((x % d : Nat) : Int)]) ∧ RNat w' (.agg #[.slice (some ⟨w.heap.size + 1 + 1, 0, none⟩) k n]) (x / d) ∧ Below w.heap.size w w' := by
  have hn0 : n ≠ 0 := fun e => hx0 ((rnat_len0 h).1 e)
  obtain ⟨F, hs, hd, h1, hv⟩ := h.open
  have hn : n ≤ 4294967296 := rfits_len (hv.symm ▸ hx) h1
  have HH : Hid (Sl w ax n cap F ∧ Dg F n ∧ U F n = x) := ⟨hs, hd, hv⟩
  clear hs hd h1 hv h hx
  have mk := make_at (n : Int) (n : Int) n n rfl rfl (Nat.le_refl _) (by omega)
  go_enter Tryz.func97, Tryz.ntmps97
  go_wp2_with fail
  clear mk
  obtain ⟨w0, hw0⟩ : ∃ w0, w0 = ((w.alloc (.cells #[.slice ax n cap] 30)).alloc (.cells #[.slice none 0 0] 30)).alloc (.cells (zeros n) 23) := ⟨_, rfl⟩
  have c1 : w0.cell? ⟨w.heap.size, 0, none⟩ = some (.slice ax n cap) := by rw [hw0]; simp [go_sem]
  have c2 : w0.cell? ⟨w.heap.size + 1, 0, none⟩ = some (.slice none 0 0) := by rw [hw0]; simp [go_sem]
  have f2 : w0.frozen? ⟨w.heap.size + 1, 0, none⟩ = false := by rw [hw0]; simp [go_sem]
  have R0 : Row w0 (w.heap.size + 1 + 1) n (fun _ => 0) := by rw [hw0]; exact row_zeros_at _ _ _ (by simp)
  have HB : Hid (Below w.heap.size w w0) := by rw [hw0]; exact (bel_alloc2 _ _ _).alloc (by simp <;> omega) _
  rw [← hw0]
  clear hw0
  have CC : Hid _ := And.intro c1 (And.intro c2 f2)
  clear c1 c2 f2
  go_loopw [7, 8] (fun q t wr => ∃ (i r : Nat) (H : Nat → Nat), i ≤ n ∧ t = .int .i64 ((i : Int) - 1) ∧ q = .int .u64 (r : Int) ∧ Hid (Row wr (w.heap.size + 1 + 1) n H ∧ Sm F n d i r H ∧ w0.grownBy wr (some (w.heap.size + 1 + 1)))) (fun _ t _ => (intOf t + 1).toNat)
  case atStart => exact ⟨n, 0, fun _ => 0, by omega, rfl, rfl, ⟨R0, ⟨by rw [Tp_top, Tp_top]; omega, hd0, fun j h1 h2 => absurd h2 (by omega)⟩, World.grownBy.refl _ _⟩⟩
  case round =>
    clear R0
    obtain ⟨i, r, H, hi, rfl, rfl, hP⟩ := hrel
    by_cases hi0 : 0 < i
    · obtain ⟨k, rfl⟩ : ∃ k, i = k + 1 := ⟨i - 1, by omega⟩
      obtain ⟨b, o, rfl, hw⟩ := HH.out.1.at k (by omega)
      have hc0 := hw k (by omega)
      have hb : b < w.heap.size := World.block_lt_of_cell? _ _ hc0
      have hcw : wr.cell? ⟨b, o + k, none⟩ = some (.int .u64 (F k : Nat)) := hP.out.2.2.cell (cell_later HB.out hc0) (by simp only [ne_eq, Option.some.injEq]; omega)
      have hcx : wr.cell? ⟨w.heap.size, 0, none⟩ = some (.slice (some ⟨b, o, none⟩) n cap) := hP.out.2.2.cell CC.out.1 (by simp only [ne_eq, Option.some.injEq]; omega)
      have hcd : wr.cell? ⟨w.heap.size + 1 + 1, k, none⟩ = some (.int .u64 (H k : Nat)) := hP.out.1.cell (by omega)
      have hfd : wr.frozen? ⟨w.heap.size + 1 + 1, k, none⟩ = false := hP.out.1.frozen _
      have hidx : ((k + 1 : Nat) : Int) - 1 = (k : Int) := by omega
      have hF := HH.out.2.1 k (by omega)
      have hr := hP.out.2.1.lt
      have m1 : IntKind.u64.wrap ((r : Int) * 4294967296) = ((r * 4294967296 : Nat) : Int) := by rw [IntKind.wrap_u64]; omega
      have m2 : IntKind.u64.wrap (((r * 4294967296 : Nat) : Int) + ((F k : Nat) : Int)) = ((r * 4294967296 + F k : Nat) : Int) := by rw [IntKind.wrap_u64]; omega
      have hq := small_lt hr hF
      obtain ⟨s, hs⟩ : ∃ s, s = r * 4294967296 + F k := ⟨_, rfl⟩
      have m3 : ((d : Int) == 0) = false := by simp; omega
      have S : Hid _ := And.intro (hP.out.1.set k (show (r * 4294967296 + F k) / d < 18446744073709551616 by omega)) (And.intro (hP.out.2.1.step (by omega) hF) (grown_set _ hP.out.2.2 k (.int .u64 (((r * 4294967296 + F k) / d : Nat) : Int))))
      clear hw hc0 hs hq
      rw [hidx]
      have hz : ((r : Int) * 4294967296 + ((F k : Nat) : Int)) / (d : Int) = (((r * 4294967296 + F k) / d : Nat) : Int) := by simp
      have hz2 : ((r : Int) * 4294967296 + ((F k : Nat) : Int)) % (d : Int) = (((r * 4294967296 + F k) % d : Nat) : Int) := by simp
      have HZ : Hid _ := And.intro hz hz2
      clear hz hz2
      go_wp2_with fail
      rw [HZ.out.1, HZ.out.2]
      go_roundw
      case rel => exact ⟨k, _, _, by omega, rfl, rfl, S.out⟩
      case measure => simp [intOf]
    · obtain rfl : i = 0 := by omega
      have B0 : Hid (Below w.heap.size w wr) := HB.out.grown hP.out.2.2 HB.out.size (fun k hk => by cases hk; omega)
      have hcr : wr.cell? ⟨w.heap.size + 1, 0, none⟩ = some (.slice none 0 0) := hP.out.2.2.cell CC.out.2.1 (by simp)
      have hfr : wr.frozen? ⟨w.heap.size + 1, 0, none⟩ = false := (World.frozen?_of_block (hP.out.2.2.block _ (World.block_lt_of_cell? _ _ CC.out.2.1) (by simp))).trans CC.out.2.2
      go_wp2_with fail
      refine (rtrimmed_at _ n n H wr (by have := hP.out.1.sl (o := 0) (n := n) (cap := n) (by omega) (Nat.le_refl _) (by omega); rw [fro_zero] at this; exact this) (fun j hj => hP.out.2.1.dg j (Nat.zero_le _) hj) (by omega) hn0).mono ?_
      rintro e w3 ⟨n3, rfl, hv3, hb3⟩
      have he := hP.out.2.1.done
      rw [HH.out.2.2] at he
      rw [he.1] at hv3
      have hcr3 : w3.cell? ⟨w.heap.size + 1, 0, none⟩ = some (.slice none 0 0) := cell_later hb3 hcr
      have hfr3 : w3.frozen? ⟨w.heap.size + 1, 0, none⟩ = false := (hb3.frozen (World.block_lt_of_cell? _ _ hcr)).trans hfr
      have HV3 : Hid (RNat w3 (.agg #[.slice (some ⟨w.heap.size + 1 + 1, 0, none⟩) n3 n]) (x / d)) := hv3
      have B3 : Hid (Below w.heap.size w w3) := bel_go B0.out hb3
      have HE : Hid (r = x % d) := he.2
      clear hv3 hb3 hcr hfr he
      go_wp2_with fail
      refine bodyPost_ret (v := .tuple #[.agg #[.slice (some ⟨w.heap.size + 1 + 1, 0, none⟩) n3 n], .int .u64 (r : Int)]) (by simp [results, Tryz.results97, go_sem, hcr3]) rfl ⟨_, by rw [HE.out], ?_, B3.out.setCell (by show _ ≤ _ + 1; omega) _⟩
      exact HV3.out.setCell (no_int_slice hcr3) _
theorem rsmall_any (v : Value) (x d : Nat) (w : World) (h : RNat w v x) (hx : RFits x) (hd0 : 0 < d) (hd1 : d < 4294967296) (hx0 : x ≠ 0) :
    Calls Tryz.prog 97 #[v, .int .u64 (d : Int)] w fun e w' => ∃ v', e = .returned (.tuple #[v', .int .u64 ((x % d : Nat) : Int)]) ∧ RNat w' v' (x / d) ∧ Below w.heap.size w w' := by
  obtain ⟨ax, n, cap, rfl⟩ := h.isAgg
  exact (rsmall_at ax n cap x d w h hx hd0 hd1 hx0).mono fun e w' ⟨k, e1, e2, e3⟩ => ⟨_, e1, e2, e3⟩
end Go.Proofs.YtmiiaomdenpceaaGreatDoor

namespace Go.Proofs.YtmiiaomdenpceaaGreatDoor
open Go.RowKit
set_option maxRecDepth 100000
set_option linter.unusedVariables false
end Go.Proofs.YtmiiaomdenpceaaGreatDoor

namespace Go.Proofs.YtmiiaomdenpceaaGreatDoor
open Go.RowKit
set_option maxRecDepth 100000
set_option linter.unusedVariables false
theorem U_put (H : Nat → Nat) (q N e : Nat) (hq : q < N) : U (put H q e) N + H q * B q = U H N + e * B q := by
  obtain ⟨t, rfl⟩ : ∃ t, N = q + 1 + t := ⟨N - (q + 1), by omega⟩
  rw [U_split _ (q + 1), U_split H (q + 1), U_succ, U_succ, put_same, U_congr (F := put H q e) (G := H) (n := q) fun i hi => put_other _ _ (by omega),
    U_congr (F := fun i => put H q e (q + 1 + i)) (G := fun i => H (q + 1 + i)) fun i hi => put_other _ _ (by omega)]
  omega
theorem tm_le {f g h c : Nat} (hf : f < 4294967296) (hg : g < 4294967296) (hh : h < 4294967296) (hc : c < 4294967296) : f * g + h + c < 18446744073709551616 := by
  have : f * g ≤ 4294967295 * 4294967295 := Nat.mul_le_mul (by omega) (by omega)
  omega
theorem tm_eq {u' u h b s f g c T fb : Nat} (e1 : u' + h * b = u + s % 4294967296 * b) (hs : s = f * g + h + c) (e2 : u + c * b = T) (hfb : f * b * g = fb) : u' + s / 4294967296 * (b * 4294967296) = T + fb := by
  have h1 := Nat.div_add_mod s 4294967296
  have h2 : s * b = (4294967296 * (s / 4294967296) + s % 4294967296) * b := by rw [h1]
  have h3 : s * b = (f * g + h + c) * b := by rw [hs]
  grind
/-- i rows of a product are laid, and k digits of the next one; c is carried. -/
structure Tm (F : Nat → Nat) (n : Nat) (G : Nat → Nat) (m i k c : Nat) (H : Nat → Nat) : Prop where
  eq : U H (n + m) + c * B (i + k) = U F i * U G m + F i * B i * U G k
  dg : Dg H (n + m)
  top : ∀ j, i + m ≤ j → H j = 0
  car : c < 4294967296
theorem Tm.step {F G H : Nat → Nat} {n m i k c : Nat} (h : Tm F n G m i k c H) (hi : i < n) (hk : k < m) (hf : F i < 4294967296) (hg : G k < 4294967296) :
    Tm F n G m i (k + 1) ((F i * G k + H (i + k) + c) / 4294967296) (put H (i + k) ((F i * G k + H (i + k) + c) % 4294967296)) := by
  have hl := tm_le hf hg (h.dg (i + k) (by omega)) h.car
  refine ⟨?_, fun j hj => ?_, fun j hj => ?_, by omega⟩
  · rw [show i + (k + 1) = i + k + 1 by omega, B_succ, U_succ, Nat.mul_add, ← Nat.add_assoc]
    refine tm_eq (U_put H (i + k) (n + m) _ (by omega)) rfl h.eq ?_
    rw [B_add]
    grind
  · unfold put
    split
    · exact Nat.mod_lt _ (by decide)
    · exact h.dg j hj
  · rw [put_other _ _ (by omega)]
    exact h.top j hj
theorem Tm.next {F G H : Nat → Nat} {n m i c : Nat} (h : Tm F n G m i m c H) (hi : i < n) : Tm F n G m (i + 1) 0 0 (put H (i + m) c) := by
  refine ⟨?_, fun j hj => ?_, fun j hj => ?_, by omega⟩
  · have h1 := U_put H (i + m) (n + m) c (by omega)
    rw [h.top (i + m) (by omega)] at h1
    have h2 := h.eq
    rw [U_succ, U_zero]
    grind
  · unfold put
    split
    · exact h.car
    · exact h.dg j hj
  · rw [put_other _ _ (by omega)]
    exact h.top j (by omega)
theorem Tm.again {F G H : Nat → Nat} {n m i : Nat} (h : Tm F n G m i 0 0 H) : Tm F n G m i 0 0 H := h
end Go.Proofs.YtmiiaomdenpceaaGreatDoor

namespace Go.Proofs.YtmiiaomdenpceaaGreatDoor
open Go.RowKit
set_option maxRecDepth 100000
set_option linter.unusedVariables false
theorem decVal_lt {s : ByteArray} : ∀ {i : Nat}, Digits s i → decVal s i < 10 ^ i
  | 0, _ => by simp [decVal]
  | i + 1, h => by
    have h1 := decVal_lt (i := i) fun j hj => h j (by omega)
    have h2 := h i (by omega)
    rw [decVal, Nat.pow_succ]
    omega
/-- Where Parse stands: its two boxes, the number so far. -/
structure PS (w wr : World) (ax : Option Addr) (nx cx X : Nat) : Prop where
  c1 : wr.cell? ⟨w.heap.size, 0, none⟩ = some (.slice none 0 0)
  f1 : wr.frozen? ⟨w.heap.size, 0, none⟩ = false
  c2 : wr.cell? ⟨w.heap.size + 1, 0, none⟩ = some (.slice ax nx cx)
  f2 : wr.frozen? ⟨w.heap.size + 1, 0, none⟩ = false
  num : RNat wr (.agg #[.slice ax nx cx]) X
  bel : Below w.heap.size w wr
theorem PS.mono {w wr w' : World} {ax : Option Addr} {nx cx X : Nat} (h : PS w wr ax nx cx X) (hb : Below wr.heap.size wr w') : PS w w' ax nx cx X :=
  ⟨cell_later hb h.c1, (hb.frozen (World.block_lt_of_cell? _ _ h.c1)).trans h.f1, cell_later hb h.c2, (hb.frozen (World.block_lt_of_cell? _ _ h.c2)).trans h.f2, h.num.mono hb, bel_go h.bel hb⟩
theorem PS.set {w wr : World} {ax a4 : Option Addr} {nx cx X n4 c4 Y : Nat} (h : PS w wr ax nx cx X) (hv : RNat wr (.agg #[.slice a4 n4 c4]) Y) : PS w (wr.setCell ⟨w.heap.size + 1, 0, none⟩ (.slice a4 n4 c4)) a4 n4 c4 Y := by
  have h1 := h.c1
  have h2 := h.c2
  have h3 := h.f1
  have h4 := h.f2
  refine ⟨?_, ?_, ?_, ?_, hv.setCell (no_int_slice h2) _, h.bel.setCell (by show _ ≤ _ + 1; omega) _⟩
  all_goals simp [go_sem, *]
end Go.Proofs.YtmiiaomdenpceaaGreatDoor

namespace Go.Proofs.YtmiiaomdenpceaaGreatDoor
open Go.RowKit
set_option linter.unusedVariables false
/-- Is there a digit? -/
def isD (s : ByteArray) (i : Nat) : Bool := decide (i < s.size) && (decide (48 ≤ sb s i) && decide (sb s i ≤ 57))
def runF (s : ByteArray) : Nat → Nat → Nat
  | 0, i => i
  | k + 1, i => if isD s i then runF s k (i + 1) else i
/-- Where the digits end that begin at i. -/
def runE (s : ByteArray) (i : Nat) : Nat := runF s (s.size - i) i
theorem isD_lt {s : ByteArray} {i : Nat} (h : isD s i = true) : i < s.size := by
  unfold isD at h
  simp at h
  exact h.1
theorem isD_dig {s : ByteArray} {i : Nat} (h : isD s i = true) : 48 ≤ sb s i ∧ sb s i ≤ 57 := by
  unfold isD at h
  simp at h
  exact h.2
theorem runE_yes {s : ByteArray} {i : Nat} (h : isD s i = true) : runE s i = runE s (i + 1) := by
  have := isD_lt h
  unfold runE
  rw [show s.size - i = s.size - (i + 1) + 1 by omega, runF, if_pos h]
theorem runE_no {s : ByteArray} {i : Nat} (h : isD s i = false) : runE s i = i := by
  unfold runE
  cases s.size - i with
  | zero => rfl
  | succ k => rw [runF, if_neg (by simp [h])]
theorem runF_ge (s : ByteArray) : ∀ k i, i ≤ runF s k i
  | 0, i => Nat.le_refl _
  | k + 1, i => by
    rw [runF]
    split
    · have := runF_ge s k (i + 1); omega
    · omega
theorem runE_ge (s : ByteArray) (i : Nat) : i ≤ runE s i := runF_ge s _ i
theorem runF_le (s : ByteArray) : ∀ k i, i ≤ s.size → runF s k i ≤ s.size
  | 0, i, h => h
  | k + 1, i, h => by
    rw [runF]
    split
    · rename_i hd
      have := isD_lt hd
      exact runF_le s k (i + 1) (by omega)
    · exact h
theorem runE_le {s : ByteArray} {i : Nat} (h : i ≤ s.size) : runE s i ≤ s.size := runF_le s _ i h
theorem runF_dig (s : ByteArray) : ∀ k i j, i ≤ j → j < runF s k i → isD s j = true
  | 0, i, j, h1, h2 => by rw [runF] at h2; omega
  | k + 1, i, j, h1, h2 => by
    rw [runF] at h2
    split at h2
    · rename_i hd
      rcases Nat.eq_or_lt_of_le h1 with e | e
      · rw [← e]; exact hd
      · exact runF_dig s k (i + 1) j e h2
    · omega
theorem runE_dig {s : ByteArray} {i j : Nat} (h1 : i ≤ j) (h2 : j < runE s i) : isD s j = true := runF_dig s _ i j h1 h2
theorem runE_end {s : ByteArray} {i : Nat} (h : i ≤ s.size) : isD s (runE s i) = false := by
  obtain ⟨k, hk⟩ : ∃ k, k = s.size - i := ⟨_, rfl⟩
  induction k generalizing i with
  | zero =>
    have e : i = s.size := by omega
    have hn : isD s i = false := by unfold isD; rw [e]; simp
    rw [runE_no hn]
    exact hn
  | succ k ih =>
    cases hd : isD s i with
    | true =>
      rw [runE_yes hd]
      have := isD_lt hd
      exact ih (by omega) (by omega)
    | false => rw [runE_no hd]; exact hd
/-- A piece of a text. -/
theorem sb_extract {s : ByteArray} {a b i : Nat} (hb : b ≤ s.size) (hi : a + i < b) : sb (s.extract a b) i = sb s (a + i) := by
  have h1 : i < (s.extract a b).size := by rw [ByteArray.size_extract]; omega
  have h2 : a + i < s.size := by omega
  unfold sb
  rw [dif_pos h1, dif_pos h2]
  rw [ByteArray.getElem_extract h1]
theorem size_ext {s : ByteArray} {a b : Nat} (hb : b ≤ s.size) : (s.extract a b).size = b - a := by rw [ByteArray.size_extract]; omega
theorem sb_app {s t : ByteArray} {i : Nat} : sb (s ++ t) i = if i < s.size then sb s i else sb t (i - s.size) := by
  have e := ByteArray.size_append (a := s) (b := t)
  unfold sb
  by_cases h1 : i < s.size
  · rw [if_pos h1, dif_pos h1, dif_pos (by omega), ByteArray.getElem_append_left h1]
  · rw [if_neg h1]
    by_cases h2 : i - s.size < t.size
    · rw [dif_pos h2, dif_pos (by omega), ByteArray.getElem_append_right (by omega)]
    · rw [dif_neg h2, dif_neg (by omega)]
theorem dig_ext {s : ByteArray} {i : Nat} (h : i ≤ s.size) : Digits (s.extract i (runE s i)) (s.extract i (runE s i)).size := by
  intro j hj
  have h1 := runE_le h
  rw [size_ext h1] at hj
  rw [sb_extract h1 (by omega)]
  exact isD_dig (runE_dig (i := i) (by omega) (by omega))
theorem dig_app {s t : ByteArray} (h : Digits s s.size) (k : Digits t t.size) : Digits (s ++ t) (s ++ t).size := by
  intro j hj
  rw [ByteArray.size_append] at hj
  rw [sb_app]
  split
  · exact h j (by assumption)
  · exact k _ (by omega)
end Go.Proofs.YtmiiaomdenpceaaGreatDoor

