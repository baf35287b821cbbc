/- Contracts of the program's functions, part 20: own work, joined in build order. -/
import Derived.Test.YthogfecnbddfoaaGreatDoorJ19
import Derived.Laws.Bits64b
namespace Go.Proofs.YthogfecnbddfoaaGreatDoor
open Go.RowKit
set_option maxRecDepth 100000
set_option linter.unusedVariables false
theorem dbl_sign : Ieee.double.signWeight = 9223372036854775808 := by decide
theorem dbl_bin : Ieee.double.binade = 4503599627370496 := by decide
theorem dbl_inf : Ieee.double.infRung = 9218868437227405312 := by decide
theorem dbl_least : Ieee.double.leastPlace = -1074 := by decide
theorem read_num {u : Nat} (h : u < 9218868437227405312) : Ieee.double.read u = .number false (fm u) (-1074 + (fe u : Int)) := by
  have h1 : (u / 9223372036854775808 % 2 == 1) = false := by rw [Nat.div_eq_of_lt (by omega)]; rfl
  have h2 : u % 9223372036854775808 = u := Nat.mod_eq_of_lt (by omega)
  unfold Ieee.Format.read
  rw [dbl_sign, dbl_bin, dbl_inf, dbl_least, h2]
  simp only [h1]
  unfold fm fe
  by_cases hs : u < 4503599627370496
  · have e0 : u / 4503599627370496 = 0 := Nat.div_eq_of_lt hs
    have e1 : u % 4503599627370496 = u := Nat.mod_eq_of_lt hs
    rw [if_pos hs, e0, if_pos rfl, e1]
    rfl
  · have e0 : ¬ u / 4503599627370496 = 0 := by omega
    rw [if_neg hs, if_pos h, if_neg e0, Nat.add_comm]
theorem signed_pos (m k : Nat) : Ieee.signed false m k = ((m * 2 ^ k : Nat) : Int) := by
  unfold Ieee.signed
  rw [Nat.shiftLeft_eq]
  simp
theorem order_gt {m n i j : Nat} : ((Ieee.Datum.number false m (-1074 + (i : Int))).order (.number false n (-1074 + (j : Int))) == some .gt) = decide (n * 2 ^ j < m * 2 ^ i) := by
  unfold Ieee.Datum.order
  simp only [signed_pos]
  by_cases h : i ≤ j
  · have e1 : (-1074 + (i : Int) - min (-1074 + (i : Int)) (-1074 + (j : Int))).toNat = 0 := by omega
    have e2 : (-1074 + (j : Int) - min (-1074 + (i : Int)) (-1074 + (j : Int))).toNat = j - i := by omega
    have e3 : n * 2 ^ j = n * 2 ^ (j - i) * 2 ^ i := by rw [Nat.mul_assoc, ← Nat.pow_add, show j - i + i = j by omega]
    rw [e1, e2, e3, Nat.pow_zero, Nat.mul_one]
    have e4 : (n * 2 ^ (j - i) * 2 ^ i < m * 2 ^ i) ↔ n * 2 ^ (j - i) < m := Nat.mul_lt_mul_right (Nat.two_pow_pos i)
    generalize n * 2 ^ (j - i) = a at *
    rw [decide_eq_decide.2 e4]
    rcases Nat.lt_trichotomy a m with h5 | h5 | h5
    · rw [decide_eq_true h5]
      have : compare (m : Int) (a : Int) = .gt := Int.compare_eq_gt.2 (by omega)
      rw [this]; rfl
    · rw [decide_eq_false (by omega)]
      have : compare (m : Int) (a : Int) = .eq := Int.compare_eq_eq.2 (by omega)
      rw [this]; rfl
    · rw [decide_eq_false (by omega)]
      have : compare (m : Int) (a : Int) = .lt := Int.compare_eq_lt.2 (by omega)
      rw [this]; rfl
  · have e1 : (-1074 + (i : Int) - min (-1074 + (i : Int)) (-1074 + (j : Int))).toNat = i - j := by omega
    have e2 : (-1074 + (j : Int) - min (-1074 + (i : Int)) (-1074 + (j : Int))).toNat = 0 := by omega
    have e3 : m * 2 ^ i = m * 2 ^ (i - j) * 2 ^ j := by rw [Nat.mul_assoc, ← Nat.pow_add, show i - j + j = i by omega]
    rw [e1, e2, e3, Nat.pow_zero, Nat.mul_one]
    have e4 : (n * 2 ^ j < m * 2 ^ (i - j) * 2 ^ j) ↔ n < m * 2 ^ (i - j) := Nat.mul_lt_mul_right (Nat.two_pow_pos j)
    generalize m * 2 ^ (i - j) = a at *
    rw [decide_eq_decide.2 e4]
    rcases Nat.lt_trichotomy n a with h5 | h5 | h5
    · rw [decide_eq_true h5]
      have : compare (a : Int) (n : Int) = .gt := Int.compare_eq_gt.2 (by omega)
      rw [this]; rfl
    · rw [decide_eq_false (by omega)]
      have : compare (a : Int) (n : Int) = .eq := Int.compare_eq_eq.2 (by omega)
      rw [this]; rfl
    · rw [decide_eq_false (by omega)]
      have : compare (a : Int) (n : Int) = .lt := Int.compare_eq_lt.2 (by omega)
      rw [this]; rfl
theorem gtM_val {u : Nat} (h : u < 9218868437227405312) : gtM u = decide (4503599627370496 * 2 ^ 1042 < fm u * 2 ^ fe u) := by
  have hK := read_num (u := 4697254411347427328) (by omega)
  rw [show fm 4697254411347427328 = 4503599627370496 by decide, show fe 4697254411347427328 = 1042 by decide] at hK
  show ((Ieee.double.read u).order (Ieee.double.read 4697254411347427328) == some .gt) = _
  rw [read_num h, hK]
  exact order_gt
theorem pow_split {e c : Nat} (h : c ≤ e) : 2 ^ e = 2 ^ c * 2 ^ (e - c) := by rw [← Nat.pow_add, show c + (e - c) = e by omega]
theorem gtM_iff {u : Nat} (h : u < 9218868437227405312) : gtM u = decide (4697254411347427328 < u) := by
  rw [gtM_val h]
  refine decide_eq_decide.2 ?_
  have hm := fm_lt u
  have hm' : fm u < 9007199254740992 := hm
  obtain ⟨c, hc⟩ : ∃ c, c = 1042 := ⟨_, rfl⟩
  rw [← hc]
  rcases Nat.lt_trichotomy (fe u) c with h1 | h1 | h1
  · have h2 : 2 ^ c = 2 ^ (fe u + 1) * 2 ^ (c - (fe u + 1)) := pow_split (by omega)
    have h3 : 0 < 2 ^ (c - (fe u + 1)) := Nat.two_pow_pos _
    have h4 : 0 < 2 ^ fe u := Nat.two_pow_pos _
    have h5 : 2 ^ (fe u + 1) = 2 * 2 ^ fe u := by rw [Nat.pow_succ, Nat.mul_comm]
    have h6 : fm u * 2 ^ fe u < 9007199254740992 * 2 ^ fe u := Nat.mul_lt_mul_of_pos_right hm' h4
    have h7 : 9007199254740992 * 2 ^ fe u ≤ 4503599627370496 * 2 ^ c := by
      rw [h2, h5]
      calc 9007199254740992 * 2 ^ fe u = 4503599627370496 * (2 * 2 ^ fe u) * 1 := by omega
        _ ≤ 4503599627370496 * (2 * 2 ^ fe u) * 2 ^ (c - (fe u + 1)) := Nat.mul_le_mul_left _ h3
        _ = 4503599627370496 * (2 * 2 ^ fe u * 2 ^ (c - (fe u + 1))) := by rw [Nat.mul_assoc 4503599627370496]
    have h8 : ¬ 4697254411347427328 < u := by
      unfold fe at h1
      omega
    constructor
    · intro h9; omega
    · intro h9; exact absurd h9 h8
  · rw [h1]
    have h4 : 0 < 2 ^ c := Nat.two_pow_pos _
    rw [Nat.mul_lt_mul_right h4]
    unfold fe at h1
    have e0 : ¬ u / 4503599627370496 = 0 := by omega
    unfold fm
    rw [if_neg e0]
    omega
  · have h2 : 2 ^ fe u = 2 ^ (c + 1) * 2 ^ (fe u - (c + 1)) := pow_split (by omega)
    have h3 : 0 < 2 ^ (fe u - (c + 1)) := Nat.two_pow_pos _
    have h4 : 0 < 2 ^ c := Nat.two_pow_pos _
    have h5 : 2 ^ (c + 1) = 2 * 2 ^ c := by rw [Nat.pow_succ, Nat.mul_comm]
    have e0 : ¬ u / 4503599627370496 = 0 := by unfold fe at h1; omega
    have h6 : 4503599627370496 ≤ fm u := by unfold fm; rw [if_neg e0]; omega
    have h7 : 4503599627370496 * (2 * 2 ^ c) ≤ fm u * 2 ^ fe u := by
      rw [h2, h5]
      refine Nat.mul_le_mul h6 ?_
      exact Nat.le_mul_of_pos_right _ h3
    have h8 : 4697254411347427328 < u := by
      unfold fe at h1
      omega
    constructor
    · intro _; exact h8
    · intro _; omega
end Go.Proofs.YthogfecnbddfoaaGreatDoor

namespace Go.Proofs.YthogfecnbddfoaaGreatDoor
open Go.RowKit
set_option maxRecDepth 100000
set_option linter.unusedVariables false
theorem and_2047 (x : Nat) (h : x < 18446744073709551616) : bits .and .u64 (x : Int) 2047 = ((x % 2048 : Nat) : Int) := by
  have := bits_and_u64_nat x 2047 h (by omega)
  rw [show (2047 : Nat) = 2 ^ 11 - 1 from rfl, Nat.and_two_pow_sub_one_eq_mod] at this
  exact this
theorem and_low52 (x : Nat) (h : x < 18446744073709551616) : bits .and .u64 (x : Int) 4503599627370495 = ((x % 4503599627370496 : Nat) : Int) := by
  have := bits_and_u64_nat x 4503599627370495 h (by omega)
  rw [show (4503599627370495 : Nat) = 2 ^ 52 - 1 from rfl, Nat.and_two_pow_sub_one_eq_mod] at this
  exact this
theorem or_52 (m : Nat) (h : m < 4503599627370496) : bits .or .u64 (m : Int) 4503599627370496 = ((m + 4503599627370496 : Nat) : Int) := by
  have := bits_or_u64_nat m 4503599627370496 (by omega) (by omega)
  rw [Nat.or_comm, show (4503599627370496 : Nat) = 2 ^ 52 * 1 from rfl, ← Nat.two_pow_add_eq_or_of_lt (show m < 2 ^ 52 from h)] at this
  rw [Nat.add_comm m]
  exact this
/-- What Rate looks at. -/
structure Rl (u x0 E m t s : Nat) : Prop where
  lt : u < 18446744073709551616
  x : x0 = u / 4503599627370496
  e : E = x0 % 2048
  m : m = u % 4503599627370496
  t : t = u / 9223372036854775808
  s : s = u * 2 % 18446744073709551616
theorem rl_of (u : Nat) (h : u < 18446744073709551616) : ∃ x0 E m t s, Rl u x0 E m t s := ⟨_, _, _, _, _, h, rfl, rfl, rfl, rfl, rfl⟩
structure Rr (u x0 E m t s : Nat) : Prop where
  r2 : (u : Int) / 4503599627370496 = (x0 : Int)
  r3 : bits .and .u64 (x0 : Int) 2047 = (E : Int)
  r5 : bits .and .u64 (u : Int) 4503599627370495 = (m : Int)
  r6 : (u : Int) / 9223372036854775808 = (t : Int)
  r7 : IntKind.u64.wrap ((u : Int) * 2) = (s : Int)
  r8 : wrap64 (E : Int) = (E : Int)
  r9 : IntKind.i64.wrap (E : Int) = (E : Int)
  r10 : bits .or .u64 (m : Int) 4503599627370496 = ((m + 4503599627370496 : Nat) : Int)
theorem Rl.rules {u x0 E m t s : Nat} (h : Rl u x0 E m t s) : Rr u x0 E m t s := by
  obtain ⟨h0, h1, h2, h3, h4, h5⟩ := h
  have hE : E < 2048 := by rw [h2]; exact Nat.mod_lt _ (by omega)
  refine ⟨by omega, ?_, ?_, by omega, by rw [IntKind.wrap_u64]; omega, IntWalk.wrap64_in _ ⟨by omega, by omega⟩, by rw [IntKind.wrap_i64]; omega, or_52 m (by omega)⟩
  · rw [h2]; exact and_2047 x0 (by omega)
  · rw [h3]; exact and_low52 u h0
set_option maxHeartbeats 4000000 in
theorem rrate_bad1 (u x0 E m t s : Nat) (w : World) (h : Rl u x0 E m t s) (h1 : E = 2047) : Calls Tryz.prog 7 #[.int .u64 (u : Int)] w (MakesRRB w 0 1 false) := by
  have RR : Hid (Rr u x0 E m t s) := h.rules
  have d1 : decide (E = 2047) = true := decide_eq_true h1
  have d1' : ((E : Int) == 2047) = true := by simp; omega
  clear h1
  clear h
  obtain ⟨r2, r3, r5, r6, r7, r8, r9, r10⟩ := RR.out
  go_enter Tryz.func7, Tryz.ntmps7
  go_wp2_with fail
  refine (rzero2_any _).mono ?_
  rintro e w1 ⟨v1, rfl, hv1, hb1⟩
  have hv' := hv1
  obtain ⟨a6, n6, c6, a7, n7, c7, ev, _, _⟩ := hv'
  subst ev
  have z0 : w1.cell? ⟨w.heap.size, 0, none⟩ = some (.slice none 0 0) := cell_later hb1 (by simp [go_sem])
  have z1 : w1.cell? ⟨w.heap.size, 1, none⟩ = some (.slice none 0 0) := cell_later hb1 (by simp [go_sem])
  have y0 : w1.frozen? ⟨w.heap.size, 0, none⟩ = false := (hb1.frozen (by simp)).trans (by simp [go_sem])
  have y1 : w1.frozen? ⟨w.heap.size, 1, none⟩ = false := (hb1.frozen (by simp)).trans (by simp [go_sem])
  have Z : Hid _ := rrat_put (v := .slice a6 n6 c6) (u := .slice a7 n7 c7) z0 z1 hv1 (bel_go (bel_al (bel_refl w)) hb1) (Nat.le_refl _)
  clear hv1 hb1
  go_wp2_with fail
  exact bodyPost_ret (v := .tuple #[.agg #[.slice a6 n6 c6, .slice a7 n7 c7], .bool false]) (by simp [results, Tryz.results7, go_sem, z0, z1]) rfl ⟨_, rfl, Z.out.1, Z.out.2⟩
set_option maxHeartbeats 4000000 in
theorem rrate_bad2 (u x0 E m t s : Nat) (w : World) (h : Rl u x0 E m t s) (h1 : E ≠ 2047) (h2 : t = 1) (h3 : s ≠ 0) : Calls Tryz.prog 7 #[.int .u64 (u : Int)] w (MakesRRB w 0 1 false) := by
  have RR : Hid (Rr u x0 E m t s) := h.rules
  have d1 : decide (E = 2047) = false := decide_eq_false (by omega)
  have d1' : ((E : Int) == 2047) = false := by simp; omega
  have d12 : ¬ E = 2047 := by omega
  have d2 : decide (t = 1) = true := decide_eq_true h2
  have d2' : ((t : Int) == 1) = true := by simp; omega
  have d3 : decide (s = 0) = false := decide_eq_false (by omega)
  have d3' : ((s : Int) == 0) = false := by simp; omega
  have d32 : ¬ s = 0 := by omega
  clear h1 h2 h3
  clear h
  obtain ⟨r2, r3, r5, r6, r7, r8, r9, r10⟩ := RR.out
  go_enter Tryz.func7, Tryz.ntmps7
  go_wp2_with fail
  refine (rzero2_any _).mono ?_
  rintro e w1 ⟨v1, rfl, hv1, hb1⟩
  have hv' := hv1
  obtain ⟨a6, n6, c6, a7, n7, c7, ev, _, _⟩ := hv'
  subst ev
  have z0 : w1.cell? ⟨w.heap.size, 0, none⟩ = some (.slice none 0 0) := cell_later hb1 (by simp [go_sem])
  have z1 : w1.cell? ⟨w.heap.size, 1, none⟩ = some (.slice none 0 0) := cell_later hb1 (by simp [go_sem])
  have y0 : w1.frozen? ⟨w.heap.size, 0, none⟩ = false := (hb1.frozen (by simp)).trans (by simp [go_sem])
  have y1 : w1.frozen? ⟨w.heap.size, 1, none⟩ = false := (hb1.frozen (by simp)).trans (by simp [go_sem])
  have Z : Hid _ := rrat_put (v := .slice a6 n6 c6) (u := .slice a7 n7 c7) z0 z1 hv1 (bel_go (bel_al (bel_refl w)) hb1) (Nat.le_refl _)
  clear hv1 hb1
  go_wp2_with fail
  exact bodyPost_ret (v := .tuple #[.agg #[.slice a6 n6 c6, .slice a7 n7 c7], .bool false]) (by simp [results, Tryz.results7, go_sem, z0, z1]) rfl ⟨_, rfl, Z.out.1, Z.out.2⟩
set_option maxHeartbeats 4000000 in
theorem rrate_bad3 (u x0 E m t s : Nat) (w : World) (h : Rl u x0 E m t s) (h1 : E ≠ 2047) (h2 : t ≠ 1) (h3 : 1043 < E) : Calls Tryz.prog 7 #[.int .u64 (u : Int)] w (MakesRRB w 0 1 false) := by
  have RR : Hid (Rr u x0 E m t s) := h.rules
  have d1 : decide (E = 2047) = false := decide_eq_false (by omega)
  have d1' : ((E : Int) == 2047) = false := by simp; omega
  have d12 : ¬ E = 2047 := by omega
  have d2 : decide (t = 1) = false := decide_eq_false (by omega)
  have d2' : ((t : Int) == 1) = false := by simp; omega
  have d22 : ¬ t = 1 := by omega
  have d4 : decide (1043 < E) = true := decide_eq_true (by omega)
  have d4' : decide ((1043 : Int) < (E : Int)) = true := decide_eq_true (by omega)
  clear h
  obtain ⟨r2, r3, r5, r6, r7, r8, r9, r10⟩ := RR.out
  go_enter Tryz.func7, Tryz.ntmps7
  go_wp2_with fail
  refine (rzero2_any _).mono ?_
  rintro e w1 ⟨v1, rfl, hv1, hb1⟩
  have hv' := hv1
  obtain ⟨a6, n6, c6, a7, n7, c7, ev, _, _⟩ := hv'
  subst ev
  have z0 : w1.cell? ⟨w.heap.size, 0, none⟩ = some (.slice none 0 0) := cell_later hb1 (by simp [go_sem])
  have z1 : w1.cell? ⟨w.heap.size, 1, none⟩ = some (.slice none 0 0) := cell_later hb1 (by simp [go_sem])
  have y0 : w1.frozen? ⟨w.heap.size, 0, none⟩ = false := (hb1.frozen (by simp)).trans (by simp [go_sem])
  have y1 : w1.frozen? ⟨w.heap.size, 1, none⟩ = false := (hb1.frozen (by simp)).trans (by simp [go_sem])
  have Z : Hid _ := rrat_put (v := .slice a6 n6 c6) (u := .slice a7 n7 c7) z0 z1 hv1 (bel_go (bel_al (bel_refl w)) hb1) (Nat.le_refl _)
  clear hv1 hb1
  go_wp2_with fail
  exact bodyPost_ret (v := .tuple #[.agg #[.slice a6 n6 c6, .slice a7 n7 c7], .bool false]) (by simp [results, Tryz.results7, go_sem, z0, z1]) rfl ⟨_, rfl, Z.out.1, Z.out.2⟩
set_option maxHeartbeats 4000000 in
theorem rrate_bad4 (u x0 E m t s : Nat) (w : World) (h : Rl u x0 E m t s) (h2 : t ≠ 1) (h3 : E = 1043) (h4 : 0 < m) : Calls Tryz.prog 7 #[.int .u64 (u : Int)] w (MakesRRB w 0 1 false) := by
  have RR : Hid (Rr u x0 E m t s) := h.rules
  have d1 : decide (E = 2047) = false := decide_eq_false (by omega)
  have d1' : ((E : Int) == 2047) = false := by simp; omega
  have d12 : ¬ E = 2047 := by omega
  have d2 : decide (t = 1) = false := decide_eq_false (by omega)
  have d2' : ((t : Int) == 1) = false := by simp; omega
  have d22 : ¬ t = 1 := by omega
  have d4 : decide (1043 < E) = false := decide_eq_false (by omega)
  have d4' : decide ((1043 : Int) < (E : Int)) = false := decide_eq_false (by omega)
  have d5 : decide (E = 1043) = true := decide_eq_true h3
  have d5' : ((E : Int) == 1043) = true := by simp; omega
  have d6 : decide (0 < m) = true := decide_eq_true (by omega)
  have d6' : decide ((0 : Int) < (m : Int)) = true := decide_eq_true (by omega)
  clear h3
  clear h
  obtain ⟨r2, r3, r5, r6, r7, r8, r9, r10⟩ := RR.out
  go_enter Tryz.func7, Tryz.ntmps7
  go_wp2_with fail
  refine (rzero2_any _).mono ?_
  rintro e w1 ⟨v1, rfl, hv1, hb1⟩
  have hv' := hv1
  obtain ⟨a6, n6, c6, a7, n7, c7, ev, _, _⟩ := hv'
  subst ev
  have z0 : w1.cell? ⟨w.heap.size, 0, none⟩ = some (.slice none 0 0) := cell_later hb1 (by simp [go_sem])
  have z1 : w1.cell? ⟨w.heap.size, 1, none⟩ = some (.slice none 0 0) := cell_later hb1 (by simp [go_sem])
  have y0 : w1.frozen? ⟨w.heap.size, 0, none⟩ = false := (hb1.frozen (by simp)).trans (by simp [go_sem])
  have y1 : w1.frozen? ⟨w.heap.size, 1, none⟩ = false := (hb1.frozen (by simp)).trans (by simp [go_sem])
  have Z : Hid _ := rrat_put (v := .slice a6 n6 c6) (u := .slice a7 n7 c7) z0 z1 hv1 (bel_go (bel_al (bel_refl w)) hb1) (Nat.le_refl _)
  clear hv1 hb1
  go_wp2_with fail
  exact bodyPost_ret (v := .tuple #[.agg #[.slice a6 n6 c6, .slice a7 n7 c7], .bool false]) (by simp [results, Tryz.results7, go_sem, z0, z1]) rfl ⟨_, rfl, Z.out.1, Z.out.2⟩
end Go.Proofs.YthogfecnbddfoaaGreatDoor

namespace Go.Proofs.YthogfecnbddfoaaGreatDoor
open Go.RowKit
set_option maxRecDepth 100000
set_option linter.unusedVariables false
/-- What comes of it. -/
structure Rg (u mm d : Nat) : Prop where
  mlt : mm < 9007199254740992
  dle : d ≤ 1074
  eN : fN (nz u) = mm
  eD : fD (nz u) = 2 ^ d
theorem Rg.some1 {u mm d : Nat} (h : Rg u mm d) : RSome mm := rsome_word (by have := h.mlt; omega)
theorem Rg.some2 {u mm d : Nat} (h : Rg u mm d) : RSome (2 ^ d) := by
  have h1 : 2 ^ d < P 17 := two_P (by have := h.dle; omega)
  exact (RS.rsome ⟨P_up h1 (by omega)⟩)
theorem rg_of {u E m : Nat} (hE : E = nz u / 4503599627370496) (hm : m = nz u % 4503599627370496) (h : E ≤ 1043) : Rg u (if E = 0 then m else m + 4503599627370496) (1075 - (if E = 0 then 1 else E)) := by
  have hf : fe (nz u) - 1074 = 0 := by unfold fe; omega
  refine ⟨?_, ?_, ?_, ?_⟩
  · split <;> omega
  · split <;> omega
  · unfold fN
    rw [hf, Nat.pow_zero, Nat.mul_one]
    unfold fm
    rw [← hE, ← hm]
  · unfold fD fe
    rw [← hE]
    congr 1
    split <;> omega
set_option maxHeartbeats 4000000 in
theorem rrate_good1 (u x0 E m t s d : Nat) (w : World) (h : Rl u x0 E m t s) (ht : t ≠ 1) (he : E = 0) (hd : d = 1074) (hg : Rg u m d) : Calls Tryz.prog 7 #[.int .u64 (u : Int)] w (MakesRRB w (fN (nz u) / Nat.gcd (fN (nz u)) (fD (nz u))) (fD (nz u) / Nat.gcd (fN (nz u)) (fD (nz u))) true) := by
  have RR : Hid (Rr u x0 E m t s) := h.rules
  have HG : Hid (Rg u m d) := hg
  rw [hg.eN, hg.eD]
  have LF : Hid (∀ v w, RNat w v 1 → Calls Tryz.prog 20 #[v, .int .i64 1074] w (RMakes w (2 ^ d))) := fun v w h => by
    have := rleft_any v 1 d w h (rs_word (by omega)).rfits (by have := hg.dle; omega)
    rw [Nat.one_mul] at this
    rw [show (d : Int) = 1074 by omega] at this
    exact this
  have d1 : decide (E = 2047) = false := decide_eq_false (by omega)
  have d1' : ((E : Int) == 2047) = false := by simp; omega
  have d12 : ¬ E = 2047 := by omega
  have d2 : decide (t = 1) = false := decide_eq_false (by omega)
  have d2' : ((t : Int) == 1) = false := by simp; omega
  have d22 : ¬ t = 1 := by omega
  have d4 : decide (1043 < E) = false := decide_eq_false (by omega)
  have d4' : decide ((1043 : Int) < (E : Int)) = false := decide_eq_false (by omega)
  have d5 : decide (E = 1043) = false := decide_eq_false (by omega)
  have d5' : ((E : Int) == 1043) = false := by simp; omega
  have d52 : ¬ E = 1043 := by omega
  have d8 : decide (E = 0) = true := decide_eq_true he
  have d8' : ((E : Int) == 0) = true := by simp; omega
  clear ht he hd
  clear h hg
  obtain ⟨r2, r3, r5, r6, r7, r8, r9, r10⟩ := RR.out
  clear r10
  have S1 : Hid _ := (sx_start w).box (.slice none 0 0) (.slice none 0 0) 35 _ rfl
  have f6 : (w.alloc (.cells #[.slice none 0 0, .slice none 0 0] 35)).frozen? ⟨w.heap.size, 0, none⟩ = false := by simp [go_sem]
  have f7 : (w.alloc (.cells #[.slice none 0 0, .slice none 0 0] 35)).frozen? ⟨w.heap.size, 1, none⟩ = false := by simp [go_sem]
  have FZ : Hid _ := And.intro f6 f7
  clear f6 f7
  go_enter Tryz.func7, Tryz.ntmps7
  go_wp2_with fail
  refine (rof_any m _ (by have := HG.out.mlt; omega)).mono ?_
  rintro e w2 ⟨v2, rfl, hv2, hb2⟩
  obtain ⟨a1, n1, c1, rfl⟩ := hv2.isAgg
  have FZ : Hid (w2.frozen? ⟨w.heap.size, 0, none⟩ = false ∧ w2.frozen? ⟨w.heap.size, 1, none⟩ = false) := ⟨(hb2.frozen (World.block_lt_of_cell? _ _ (S1.out.cel w.heap.size 0 (.slice none 0 0)))).trans FZ.out.1, (hb2.frozen (World.block_lt_of_cell? _ _ (S1.out.cel w.heap.size 1 (.slice none 0 0)))).trans FZ.out.2⟩
  have S2 : Hid _ := (S1.out.go hb2).addM hv2
  clear hv2 hb2 S1
  go_wp2_with fail
  refine (rof_any 1 _ (by omega)).mono ?_
  rintro e w3 ⟨v3, rfl, hv3, hb3⟩
  obtain ⟨a2, n2, c2, rfl⟩ := hv3.isAgg
  have hbb := bel_go hb3 (bel_al (o := .cells #[.slice a2 n2 c2] 33) (bel_al (o := .cells #[.slice a1 n1 c1] 33) (bel_refl _)))
  have FZ : Hid (((w3.alloc (.cells #[.slice a1 n1 c1] 33)).alloc (.cells #[.slice a2 n2 c2] 33)).frozen? ⟨w.heap.size, 0, none⟩ = false ∧ ((w3.alloc (.cells #[.slice a1 n1 c1] 33)).alloc (.cells #[.slice a2 n2 c2] 33)).frozen? ⟨w.heap.size, 1, none⟩ = false) := ⟨(hbb.frozen (World.block_lt_of_cell? _ _ (S2.out.cel w.heap.size 0 (.slice none 0 0)))).trans FZ.out.1, (hbb.frozen (World.block_lt_of_cell? _ _ (S2.out.cel w.heap.size 1 (.slice none 0 0)))).trans FZ.out.2⟩
  have S3 : Hid _ := ((((S2.out.go hb3).addM hv3).box1 (.slice a1 n1 c1) 33 _ rfl).box1 (.slice a2 n2 c2) 33 _ rfl)
  simp only [World.size_alloc] at S3
  have ff : ((w3.alloc (.cells #[.slice a1 n1 c1] 33)).alloc (.cells #[.slice a2 n2 c2] 33)).frozen? ⟨w3.heap.size + 1, 0, none⟩ = false := by simp [go_sem]
  have HL : Hid (w.heap.size < w3.heap.size ∧ w.heap.size ≤ w3.heap.size) := by
    have := World.block_lt_of_cell? _ _ (cell_later hb3 (S2.out.cel w.heap.size 0 (.slice none 0 0)))
    exact ⟨this, Nat.le_of_lt this⟩
  clear hv3 hb3 hbb S2
  go_wp2_with fail
  obtain ⟨w4, hw4⟩ : ∃ w4, w4 = (w3.alloc (.cells #[.slice a1 n1 c1] 33)).alloc (.cells #[.slice a2 n2 c2] 33) := ⟨_, rfl⟩
  obtain ⟨g, hg⟩ : ∃ g, g = w3.heap.size := ⟨_, rfl⟩
  rw [← hw4, ← hg] at S3 ff
  rw [← hw4] at FZ
  rw [← hg] at HL
  rw [← hw4, ← hg]
  clear hw4 hg
  refine (LF.out _ _ (S3.out.rat (.agg #[.slice a2 n2 c2]) 1)).mono ?_
  rintro e w5 ⟨v5, rfl, hv5, hb5⟩
  obtain ⟨a5, n5, c5, rfl⟩ := hv5.isAgg
  have g0 := cell_later hb5 (S3.out.cel g 0 (.slice a1 n1 c1))
  have g1 := cell_later hb5 (S3.out.cel (g + 1) 0 (.slice a2 n2 c2))
  have g2 : w5.frozen? ⟨g + 1, 0, none⟩ = false := (hb5.frozen (World.block_lt_of_cell? _ _ (S3.out.cel (g + 1) 0 (.slice a2 n2 c2)))).trans ff
  have x0' := cell_later hb5 (S3.out.cel w.heap.size 0 (.slice none 0 0))
  have x1' := cell_later hb5 (S3.out.cel w.heap.size 1 (.slice none 0 0))
  have FZ : Hid (w5.frozen? ⟨w.heap.size, 0, none⟩ = false ∧ w5.frozen? ⟨w.heap.size, 1, none⟩ = false) := ⟨(hb5.frozen (World.block_lt_of_cell? _ _ (S3.out.cel w.heap.size 0 (.slice none 0 0)))).trans FZ.out.1, (hb5.frozen (World.block_lt_of_cell? _ _ (S3.out.cel w.heap.size 1 (.slice none 0 0)))).trans FZ.out.2⟩
  have S4 : Hid (RNat w5 (.agg #[.slice a1 n1 c1]) m ∧ RNat w5 (.agg #[.slice a5 n5 c5]) (2 ^ d) ∧ Below w.heap.size w w5) := ⟨(S3.out.rat (.agg #[.slice a1 n1 c1]) m).mono hb5, hv5, bel_go S3.out.bel hb5⟩
  clear hv5 hb5 S3 ff
  obtain ⟨W, hW⟩ : ∃ W, W = w5.setCell ⟨g + 1, 0, none⟩ (.slice a5 n5 c5) := ⟨_, rfl⟩
  have ne1 : w.heap.size ≠ g + 1 := by have := HL.out; omega
  have k0 : (w5.setCell ⟨g + 1, 0, none⟩ (.slice a5 n5 c5)).cell? ⟨g, 0, none⟩ = some (.slice a1 n1 c1) := by rw [World.cell?_setCell_far _ _ _ _ (by show g + 1 ≠ g; omega)]; exact g0
  have k1 : (w5.setCell ⟨g + 1, 0, none⟩ (.slice a5 n5 c5)).cell? ⟨g + 1, 0, none⟩ = some (.slice a5 n5 c5) := by simp [go_sem, g1]
  have S5 : Hid (RNat (w5.setCell ⟨g + 1, 0, none⟩ (.slice a5 n5 c5)) (.agg #[.slice a1 n1 c1]) m ∧ RNat (w5.setCell ⟨g + 1, 0, none⟩ (.slice a5 n5 c5)) (.agg #[.slice a5 n5 c5]) (2 ^ d) ∧ Below w.heap.size w (w5.setCell ⟨g + 1, 0, none⟩ (.slice a5 n5 c5))) := ⟨S4.out.1.setCell (no_int_slice g1) _, S4.out.2.1.setCell (no_int_slice g1) _, S4.out.2.2.setCell (by have := HL.out; show _ ≤ g + 1; omega) _⟩
  have C5 : Hid ((w5.setCell ⟨g + 1, 0, none⟩ (.slice a5 n5 c5)).cell? ⟨w.heap.size, 0, none⟩ = some (.slice none 0 0) ∧ (w5.setCell ⟨g + 1, 0, none⟩ (.slice a5 n5 c5)).cell? ⟨w.heap.size, 1, none⟩ = some (.slice none 0 0) ∧ (w5.setCell ⟨g + 1, 0, none⟩ (.slice a5 n5 c5)).frozen? ⟨w.heap.size, 0, none⟩ = false ∧ (w5.setCell ⟨g + 1, 0, none⟩ (.slice a5 n5 c5)).frozen? ⟨w.heap.size, 1, none⟩ = false) := by
    refine ⟨?_, ?_, ?_, ?_⟩
    · rw [World.cell?_setCell_far _ _ _ _ (Ne.symm ne1)]; exact x0'
    · rw [World.cell?_setCell_far _ _ _ _ (Ne.symm ne1)]; exact x1'
    · rw [World.frozen?_setCell]; exact FZ.out.1
    · rw [World.frozen?_setCell]; exact FZ.out.2
  clear x0' x1' S4 g0 ne1 hW
  go_wp2_with fail
  refine (rfrom2_yes _ _ m (2 ^ d) _ S5.out.1 S5.out.2.1 HG.out.some1 HG.out.some2 (Nat.two_pow_pos _)).mono ?_
  rintro e w6 ⟨v6, rfl, hv6, hb6⟩
  have hv' := hv6
  obtain ⟨a6, n6, c6, a7, n7, c7, ev, _, _⟩ := hv'
  subst ev
  have z0 := cell_later hb6 C5.out.1
  have z1 := cell_later hb6 C5.out.2.1
  have y0 := (hb6.frozen (World.block_lt_of_cell? _ _ C5.out.1)).trans C5.out.2.2.1
  have y1 := (hb6.frozen (World.block_lt_of_cell? _ _ C5.out.2.1)).trans C5.out.2.2.2
  have Z : Hid _ := rrat_put (w0 := w) (v := .slice a6 n6 c6) (u := .slice a7 n7 c7) z0 z1 hv6 (bel_go S5.out.2.2 hb6) (Nat.le_refl _)
  clear hv6 hb6 S5 C5 k0 k1 g1 g2
  go_wp2_with fail
  exact bodyPost_ret (v := .tuple #[.agg #[.slice a6 n6 c6, .slice a7 n7 c7], .bool true]) (by simp [results, Tryz.results7, go_sem, z0, z1]) rfl ⟨_, rfl, Z.out.1, Z.out.2⟩
set_option maxHeartbeats 4000000 in
theorem rrate_good2 (u x0 E m t s d : Nat) (w : World) (h : Rl u x0 E m t s) (ht : t = 1) (hs : s = 0) (he : E = 0) (hd : d = 1074) (hg : Rg u m d) : Calls Tryz.prog 7 #[.int .u64 (u : Int)] w (MakesRRB w (fN (nz u) / Nat.gcd (fN (nz u)) (fD (nz u))) (fD (nz u) / Nat.gcd (fN (nz u)) (fD (nz u))) true) := by
  have RR : Hid (Rr u x0 E m t s) := h.rules
  have HG : Hid (Rg u m d) := hg
  rw [hg.eN, hg.eD]
  have LF : Hid (∀ v w, RNat w v 1 → Calls Tryz.prog 20 #[v, .int .i64 1074] w (RMakes w (2 ^ d))) := fun v w h => by
    have := rleft_any v 1 d w h (rs_word (by omega)).rfits (by have := hg.dle; omega)
    rw [Nat.one_mul] at this
    rw [show (d : Int) = 1074 by omega] at this
    exact this
  have d1 : decide (E = 2047) = false := decide_eq_false (by omega)
  have d1' : ((E : Int) == 2047) = false := by simp; omega
  have d12 : ¬ E = 2047 := by omega
  have d2 : decide (t = 1) = true := decide_eq_true ht
  have d2' : ((t : Int) == 1) = true := by simp; omega
  have d3 : ((s : Int) != 0) = false := by simp; omega
  have d3' : decide (s = 0) = true := decide_eq_true hs
  have d3'' : ((s : Int) == 0) = true := by simp; omega
  have d3b : s = 0 := hs
  have d4 : decide (1043 < E) = false := decide_eq_false (by omega)
  have d4' : decide ((1043 : Int) < (E : Int)) = false := decide_eq_false (by omega)
  have d5 : decide (E = 1043) = false := decide_eq_false (by omega)
  have d5' : ((E : Int) == 1043) = false := by simp; omega
  have d52 : ¬ E = 1043 := by omega
  have d8 : decide (E = 0) = true := decide_eq_true he
  have d8' : ((E : Int) == 0) = true := by simp; omega
  clear ht hs he hd
  clear h hg
  obtain ⟨r2, r3, r5, r6, r7, r8, r9, r10⟩ := RR.out
  clear r10
  have S1 : Hid _ := (sx_start w).box (.slice none 0 0) (.slice none 0 0) 35 _ rfl
  have f6 : (w.alloc (.cells #[.slice none 0 0, .slice none 0 0] 35)).frozen? ⟨w.heap.size, 0, none⟩ = false := by simp [go_sem]
  have f7 : (w.alloc (.cells #[.slice none 0 0, .slice none 0 0] 35)).frozen? ⟨w.heap.size, 1, none⟩ = false := by simp [go_sem]
  have FZ : Hid _ := And.intro f6 f7
  clear f6 f7
  go_enter Tryz.func7, Tryz.ntmps7
  go_wp2_with fail
  refine (rof_any m _ (by have := HG.out.mlt; omega)).mono ?_
  rintro e w2 ⟨v2, rfl, hv2, hb2⟩
  obtain ⟨a1, n1, c1, rfl⟩ := hv2.isAgg
  have FZ : Hid (w2.frozen? ⟨w.heap.size, 0, none⟩ = false ∧ w2.frozen? ⟨w.heap.size, 1, none⟩ = false) := ⟨(hb2.frozen (World.block_lt_of_cell? _ _ (S1.out.cel w.heap.size 0 (.slice none 0 0)))).trans FZ.out.1, (hb2.frozen (World.block_lt_of_cell? _ _ (S1.out.cel w.heap.size 1 (.slice none 0 0)))).trans FZ.out.2⟩
  have S2 : Hid _ := (S1.out.go hb2).addM hv2
  clear hv2 hb2 S1
  go_wp2_with fail
  refine (rof_any 1 _ (by omega)).mono ?_
  rintro e w3 ⟨v3, rfl, hv3, hb3⟩
  obtain ⟨a2, n2, c2, rfl⟩ := hv3.isAgg
  have hbb := bel_go hb3 (bel_al (o := .cells #[.slice a2 n2 c2] 33) (bel_al (o := .cells #[.slice a1 n1 c1] 33) (bel_refl _)))
  have FZ : Hid (((w3.alloc (.cells #[.slice a1 n1 c1] 33)).alloc (.cells #[.slice a2 n2 c2] 33)).frozen? ⟨w.heap.size, 0, none⟩ = false ∧ ((w3.alloc (.cells #[.slice a1 n1 c1] 33)).alloc (.cells #[.slice a2 n2 c2] 33)).frozen? ⟨w.heap.size, 1, none⟩ = false) := ⟨(hbb.frozen (World.block_lt_of_cell? _ _ (S2.out.cel w.heap.size 0 (.slice none 0 0)))).trans FZ.out.1, (hbb.frozen (World.block_lt_of_cell? _ _ (S2.out.cel w.heap.size 1 (.slice none 0 0)))).trans FZ.out.2⟩
  have S3 : Hid _ := ((((S2.out.go hb3).addM hv3).box1 (.slice a1 n1 c1) 33 _ rfl).box1 (.slice a2 n2 c2) 33 _ rfl)
  simp only [World.size_alloc] at S3
  have ff : ((w3.alloc (.cells #[.slice a1 n1 c1] 33)).alloc (.cells #[.slice a2 n2 c2] 33)).frozen? ⟨w3.heap.size + 1, 0, none⟩ = false := by simp [go_sem]
  have HL : Hid (w.heap.size < w3.heap.size ∧ w.heap.size ≤ w3.heap.size) := by
    have := World.block_lt_of_cell? _ _ (cell_later hb3 (S2.out.cel w.heap.size 0 (.slice none 0 0)))
    exact ⟨this, Nat.le_of_lt this⟩
  clear hv3 hb3 hbb S2
  go_wp2_with fail
  obtain ⟨w4, hw4⟩ : ∃ w4, w4 = (w3.alloc (.cells #[.slice a1 n1 c1] 33)).alloc (.cells #[.slice a2 n2 c2] 33) := ⟨_, rfl⟩
  obtain ⟨g, hg⟩ : ∃ g, g = w3.heap.size := ⟨_, rfl⟩
  rw [← hw4, ← hg] at S3 ff
  rw [← hw4] at FZ
  rw [← hg] at HL
  rw [← hw4, ← hg]
  clear hw4 hg
  refine (LF.out _ _ (S3.out.rat (.agg #[.slice a2 n2 c2]) 1)).mono ?_
  rintro e w5 ⟨v5, rfl, hv5, hb5⟩
  obtain ⟨a5, n5, c5, rfl⟩ := hv5.isAgg
  have g0 := cell_later hb5 (S3.out.cel g 0 (.slice a1 n1 c1))
  have g1 := cell_later hb5 (S3.out.cel (g + 1) 0 (.slice a2 n2 c2))
  have g2 : w5.frozen? ⟨g + 1, 0, none⟩ = false := (hb5.frozen (World.block_lt_of_cell? _ _ (S3.out.cel (g + 1) 0 (.slice a2 n2 c2)))).trans ff
  have x0' := cell_later hb5 (S3.out.cel w.heap.size 0 (.slice none 0 0))
  have x1' := cell_later hb5 (S3.out.cel w.heap.size 1 (.slice none 0 0))
  have FZ : Hid (w5.frozen? ⟨w.heap.size, 0, none⟩ = false ∧ w5.frozen? ⟨w.heap.size, 1, none⟩ = false) := ⟨(hb5.frozen (World.block_lt_of_cell? _ _ (S3.out.cel w.heap.size 0 (.slice none 0 0)))).trans FZ.out.1, (hb5.frozen (World.block_lt_of_cell? _ _ (S3.out.cel w.heap.size 1 (.slice none 0 0)))).trans FZ.out.2⟩
  have S4 : Hid (RNat w5 (.agg #[.slice a1 n1 c1]) m ∧ RNat w5 (.agg #[.slice a5 n5 c5]) (2 ^ d) ∧ Below w.heap.size w w5) := ⟨(S3.out.rat (.agg #[.slice a1 n1 c1]) m).mono hb5, hv5, bel_go S3.out.bel hb5⟩
  clear hv5 hb5 S3 ff
  obtain ⟨W, hW⟩ : ∃ W, W = w5.setCell ⟨g + 1, 0, none⟩ (.slice a5 n5 c5) := ⟨_, rfl⟩
  have ne1 : w.heap.size ≠ g + 1 := by have := HL.out; omega
  have k0 : (w5.setCell ⟨g + 1, 0, none⟩ (.slice a5 n5 c5)).cell? ⟨g, 0, none⟩ = some (.slice a1 n1 c1) := by rw [World.cell?_setCell_far _ _ _ _ (by show g + 1 ≠ g; omega)]; exact g0
  have k1 : (w5.setCell ⟨g + 1, 0, none⟩ (.slice a5 n5 c5)).cell? ⟨g + 1, 0, none⟩ = some (.slice a5 n5 c5) := by simp [go_sem, g1]
  have S5 : Hid (RNat (w5.setCell ⟨g + 1, 0, none⟩ (.slice a5 n5 c5)) (.agg #[.slice a1 n1 c1]) m ∧ RNat (w5.setCell ⟨g + 1, 0, none⟩ (.slice a5 n5 c5)) (.agg #[.slice a5 n5 c5]) (2 ^ d) ∧ Below w.heap.size w (w5.setCell ⟨g + 1, 0, none⟩ (.slice a5 n5 c5))) := ⟨S4.out.1.setCell (no_int_slice g1) _, S4.out.2.1.setCell (no_int_slice g1) _, S4.out.2.2.setCell (by have := HL.out; show _ ≤ g + 1; omega) _⟩
  have C5 : Hid ((w5.setCell ⟨g + 1, 0, none⟩ (.slice a5 n5 c5)).cell? ⟨w.heap.size, 0, none⟩ = some (.slice none 0 0) ∧ (w5.setCell ⟨g + 1, 0, none⟩ (.slice a5 n5 c5)).cell? ⟨w.heap.size, 1, none⟩ = some (.slice none 0 0) ∧ (w5.setCell ⟨g + 1, 0, none⟩ (.slice a5 n5 c5)).frozen? ⟨w.heap.size, 0, none⟩ = false ∧ (w5.setCell ⟨g + 1, 0, none⟩ (.slice a5 n5 c5)).frozen? ⟨w.heap.size, 1, none⟩ = false) := by
    refine ⟨?_, ?_, ?_, ?_⟩
    · rw [World.cell?_setCell_far _ _ _ _ (Ne.symm ne1)]; exact x0'
    · rw [World.cell?_setCell_far _ _ _ _ (Ne.symm ne1)]; exact x1'
    · rw [World.frozen?_setCell]; exact FZ.out.1
    · rw [World.frozen?_setCell]; exact FZ.out.2
  clear x0' x1' S4 g0 ne1 hW
  go_wp2_with fail
  refine (rfrom2_yes _ _ m (2 ^ d) _ S5.out.1 S5.out.2.1 HG.out.some1 HG.out.some2 (Nat.two_pow_pos _)).mono ?_
  rintro e w6 ⟨v6, rfl, hv6, hb6⟩
  have hv' := hv6
  obtain ⟨a6, n6, c6, a7, n7, c7, ev, _, _⟩ := hv'
  subst ev
  have z0 := cell_later hb6 C5.out.1
  have z1 := cell_later hb6 C5.out.2.1
  have y0 := (hb6.frozen (World.block_lt_of_cell? _ _ C5.out.1)).trans C5.out.2.2.1
  have y1 := (hb6.frozen (World.block_lt_of_cell? _ _ C5.out.2.1)).trans C5.out.2.2.2
  have Z : Hid _ := rrat_put (w0 := w) (v := .slice a6 n6 c6) (u := .slice a7 n7 c7) z0 z1 hv6 (bel_go S5.out.2.2 hb6) (Nat.le_refl _)
  clear hv6 hb6 S5 C5 k0 k1 g1 g2
  go_wp2_with fail
  exact bodyPost_ret (v := .tuple #[.agg #[.slice a6 n6 c6, .slice a7 n7 c7], .bool true]) (by simp [results, Tryz.results7, go_sem, z0, z1]) rfl ⟨_, rfl, Z.out.1, Z.out.2⟩
set_option maxHeartbeats 4000000 in
theorem rrate_good3 (u x0 E m t s mm d : Nat) (w : World) (h : Rl u x0 E m t s) (ht : t ≠ 1) (he : 0 < E) (hE : E < 1043) (hmm : mm = m + 4503599627370496) (hd : d = 1075 - E) (hg : Rg u mm d) : Calls Tryz.prog 7 #[.int .u64 (u : Int)] w (MakesRRB w (fN (nz u) / Nat.gcd (fN (nz u)) (fD (nz u))) (fD (nz u) / Nat.gcd (fN (nz u)) (fD (nz u))) true) := by
  have RR : Hid (Rr u x0 E m t s) := h.rules
  have HG : Hid (Rg u mm d) := hg
  rw [hg.eN, hg.eD]
  have LF : Hid (∀ v w, RNat w v 1 → Calls Tryz.prog 20 #[v, .int .i64 (d : Int)] w (RMakes w (2 ^ d))) := fun v w h => by
    have := rleft_any v 1 d w h (rs_word (by omega)).rfits (by have := hg.dle; omega)
    rw [Nat.one_mul] at this
    exact this
  have d1 : decide (E = 2047) = false := decide_eq_false (by omega)
  have d1' : ((E : Int) == 2047) = false := by simp; omega
  have d12 : ¬ E = 2047 := by omega
  have d2 : decide (t = 1) = false := decide_eq_false (by omega)
  have d2' : ((t : Int) == 1) = false := by simp; omega
  have d22 : ¬ t = 1 := by omega
  have d4 : decide (1043 < E) = false := decide_eq_false (by omega)
  have d4' : decide ((1043 : Int) < (E : Int)) = false := decide_eq_false (by omega)
  have d5 : decide (E = 1043) = false := decide_eq_false (by omega)
  have d5' : ((E : Int) == 1043) = false := by simp; omega
  have d52 : ¬ E = 1043 := by omega
  have d8 : decide (E = 0) = false := decide_eq_false (by omega)
  have d8' : ((E : Int) == 0) = false := by simp; omega
  have d82 : ¬ E = 0 := by omega
  have d9 : decide (1075 ≤ E) = false := decide_eq_false (by omega)
  have d9' : decide ((1075 : Int) ≤ (E : Int)) = false := decide_eq_false (by omega)
  have emm : ((m + 4503599627370496 : Nat) : Int) = (mm : Int) := by omega
  have r11 : wrap64 (1075 - (E : Int)) = (d : Int) := by rw [IntWalk.wrap64_in _ ⟨by omega, by omega⟩]; omega
  clear ht he hE hmm hd
  clear h hg
  obtain ⟨r2, r3, r5, r6, r7, r8, r9, r10⟩ := RR.out
  rw [emm] at r10
  clear emm
  have S1 : Hid _ := (sx_start w).box (.slice none 0 0) (.slice none 0 0) 35 _ rfl
  have f6 : (w.alloc (.cells #[.slice none 0 0, .slice none 0 0] 35)).frozen? ⟨w.heap.size, 0, none⟩ = false := by simp [go_sem]
  have f7 : (w.alloc (.cells #[.slice none 0 0, .slice none 0 0] 35)).frozen? ⟨w.heap.size, 1, none⟩ = false := by simp [go_sem]
  have FZ : Hid _ := And.intro f6 f7
  clear f6 f7
  go_enter Tryz.func7, Tryz.ntmps7
  go_wp2_with fail
  refine (rof_any mm _ (by have := HG.out.mlt; omega)).mono ?_
  rintro e w2 ⟨v2, rfl, hv2, hb2⟩
  obtain ⟨a1, n1, c1, rfl⟩ := hv2.isAgg
  have FZ : Hid (w2.frozen? ⟨w.heap.size, 0, none⟩ = false ∧ w2.frozen? ⟨w.heap.size, 1, none⟩ = false) := ⟨(hb2.frozen (World.block_lt_of_cell? _ _ (S1.out.cel w.heap.size 0 (.slice none 0 0)))).trans FZ.out.1, (hb2.frozen (World.block_lt_of_cell? _ _ (S1.out.cel w.heap.size 1 (.slice none 0 0)))).trans FZ.out.2⟩
  have S2 : Hid _ := (S1.out.go hb2).addM hv2
  clear hv2 hb2 S1
  go_wp2_with fail
  refine (rof_any 1 _ (by omega)).mono ?_
  rintro e w3 ⟨v3, rfl, hv3, hb3⟩
  obtain ⟨a2, n2, c2, rfl⟩ := hv3.isAgg
  have hbb := bel_go hb3 (bel_al (o := .cells #[.slice a2 n2 c2] 33) (bel_al (o := .cells #[.slice a1 n1 c1] 33) (bel_refl _)))
  have FZ : Hid (((w3.alloc (.cells #[.slice a1 n1 c1] 33)).alloc (.cells #[.slice a2 n2 c2] 33)).frozen? ⟨w.heap.size, 0, none⟩ = false ∧ ((w3.alloc (.cells #[.slice a1 n1 c1] 33)).alloc (.cells #[.slice a2 n2 c2] 33)).frozen? ⟨w.heap.size, 1, none⟩ = false) := ⟨(hbb.frozen (World.block_lt_of_cell? _ _ (S2.out.cel w.heap.size 0 (.slice none 0 0)))).trans FZ.out.1, (hbb.frozen (World.block_lt_of_cell? _ _ (S2.out.cel w.heap.size 1 (.slice none 0 0)))).trans FZ.out.2⟩
  have S3 : Hid _ := ((((S2.out.go hb3).addM hv3).box1 (.slice a1 n1 c1) 33 _ rfl).box1 (.slice a2 n2 c2) 33 _ rfl)
  simp only [World.size_alloc] at S3
  have ff : ((w3.alloc (.cells #[.slice a1 n1 c1] 33)).alloc (.cells #[.slice a2 n2 c2] 33)).frozen? ⟨w3.heap.size + 1, 0, none⟩ = false := by simp [go_sem]
  have HL : Hid (w.heap.size < w3.heap.size ∧ w.heap.size ≤ w3.heap.size) := by
    have := World.block_lt_of_cell? _ _ (cell_later hb3 (S2.out.cel w.heap.size 0 (.slice none 0 0)))
    exact ⟨this, Nat.le_of_lt this⟩
  clear hv3 hb3 hbb S2
  go_wp2_with fail
  obtain ⟨w4, hw4⟩ : ∃ w4, w4 = (w3.alloc (.cells #[.slice a1 n1 c1] 33)).alloc (.cells #[.slice a2 n2 c2] 33) := ⟨_, rfl⟩
  obtain ⟨g, hg⟩ : ∃ g, g = w3.heap.size := ⟨_, rfl⟩
  rw [← hw4, ← hg] at S3 ff
  rw [← hw4] at FZ
  rw [← hg] at HL
  rw [← hw4, ← hg]
  clear hw4 hg
  refine (LF.out _ _ (S3.out.rat (.agg #[.slice a2 n2 c2]) 1)).mono ?_
  rintro e w5 ⟨v5, rfl, hv5, hb5⟩
  obtain ⟨a5, n5, c5, rfl⟩ := hv5.isAgg
  have g0 := cell_later hb5 (S3.out.cel g 0 (.slice a1 n1 c1))
  have g1 := cell_later hb5 (S3.out.cel (g + 1) 0 (.slice a2 n2 c2))
  have g2 : w5.frozen? ⟨g + 1, 0, none⟩ = false := (hb5.frozen (World.block_lt_of_cell? _ _ (S3.out.cel (g + 1) 0 (.slice a2 n2 c2)))).trans ff
  have x0' := cell_later hb5 (S3.out.cel w.heap.size 0 (.slice none 0 0))
  have x1' := cell_later hb5 (S3.out.cel w.heap.size 1 (.slice none 0 0))
  have FZ : Hid (w5.frozen? ⟨w.heap.size, 0, none⟩ = false ∧ w5.frozen? ⟨w.heap.size, 1, none⟩ = false) := ⟨(hb5.frozen (World.block_lt_of_cell? _ _ (S3.out.cel w.heap.size 0 (.slice none 0 0)))).trans FZ.out.1, (hb5.frozen (World.block_lt_of_cell? _ _ (S3.out.cel w.heap.size 1 (.slice none 0 0)))).trans FZ.out.2⟩
  have S4 : Hid (RNat w5 (.agg #[.slice a1 n1 c1]) mm ∧ RNat w5 (.agg #[.slice a5 n5 c5]) (2 ^ d) ∧ Below w.heap.size w w5) := ⟨(S3.out.rat (.agg #[.slice a1 n1 c1]) mm).mono hb5, hv5, bel_go S3.out.bel hb5⟩
  clear hv5 hb5 S3 ff
  obtain ⟨W, hW⟩ : ∃ W, W = w5.setCell ⟨g + 1, 0, none⟩ (.slice a5 n5 c5) := ⟨_, rfl⟩
  have ne1 : w.heap.size ≠ g + 1 := by have := HL.out; omega
  have k0 : (w5.setCell ⟨g + 1, 0, none⟩ (.slice a5 n5 c5)).cell? ⟨g, 0, none⟩ = some (.slice a1 n1 c1) := by rw [World.cell?_setCell_far _ _ _ _ (by show g + 1 ≠ g; omega)]; exact g0
  have k1 : (w5.setCell ⟨g + 1, 0, none⟩ (.slice a5 n5 c5)).cell? ⟨g + 1, 0, none⟩ = some (.slice a5 n5 c5) := by simp [go_sem, g1]
  have S5 : Hid (RNat (w5.setCell ⟨g + 1, 0, none⟩ (.slice a5 n5 c5)) (.agg #[.slice a1 n1 c1]) mm ∧ RNat (w5.setCell ⟨g + 1, 0, none⟩ (.slice a5 n5 c5)) (.agg #[.slice a5 n5 c5]) (2 ^ d) ∧ Below w.heap.size w (w5.setCell ⟨g + 1, 0, none⟩ (.slice a5 n5 c5))) := ⟨S4.out.1.setCell (no_int_slice g1) _, S4.out.2.1.setCell (no_int_slice g1) _, S4.out.2.2.setCell (by have := HL.out; show _ ≤ g + 1; omega) _⟩
  have C5 : Hid ((w5.setCell ⟨g + 1, 0, none⟩ (.slice a5 n5 c5)).cell? ⟨w.heap.size, 0, none⟩ = some (.slice none 0 0) ∧ (w5.setCell ⟨g + 1, 0, none⟩ (.slice a5 n5 c5)).cell? ⟨w.heap.size, 1, none⟩ = some (.slice none 0 0) ∧ (w5.setCell ⟨g + 1, 0, none⟩ (.slice a5 n5 c5)).frozen? ⟨w.heap.size, 0, none⟩ = false ∧ (w5.setCell ⟨g + 1, 0, none⟩ (.slice a5 n5 c5)).frozen? ⟨w.heap.size, 1, none⟩ = false) := by
    refine ⟨?_, ?_, ?_, ?_⟩
    · rw [World.cell?_setCell_far _ _ _ _ (Ne.symm ne1)]; exact x0'
    · rw [World.cell?_setCell_far _ _ _ _ (Ne.symm ne1)]; exact x1'
    · rw [World.frozen?_setCell]; exact FZ.out.1
    · rw [World.frozen?_setCell]; exact FZ.out.2
  clear x0' x1' S4 g0 ne1 hW
  go_wp2_with fail
  refine (rfrom2_yes _ _ mm (2 ^ d) _ S5.out.1 S5.out.2.1 HG.out.some1 HG.out.some2 (Nat.two_pow_pos _)).mono ?_
  rintro e w6 ⟨v6, rfl, hv6, hb6⟩
  have hv' := hv6
  obtain ⟨a6, n6, c6, a7, n7, c7, ev, _, _⟩ := hv'
  subst ev
  have z0 := cell_later hb6 C5.out.1
  have z1 := cell_later hb6 C5.out.2.1
  have y0 := (hb6.frozen (World.block_lt_of_cell? _ _ C5.out.1)).trans C5.out.2.2.1
  have y1 := (hb6.frozen (World.block_lt_of_cell? _ _ C5.out.2.1)).trans C5.out.2.2.2
  have Z : Hid _ := rrat_put (w0 := w) (v := .slice a6 n6 c6) (u := .slice a7 n7 c7) z0 z1 hv6 (bel_go S5.out.2.2 hb6) (Nat.le_refl _)
  clear hv6 hb6 S5 C5 k0 k1 g1 g2
  go_wp2_with fail
  exact bodyPost_ret (v := .tuple #[.agg #[.slice a6 n6 c6, .slice a7 n7 c7], .bool true]) (by simp [results, Tryz.results7, go_sem, z0, z1]) rfl ⟨_, rfl, Z.out.1, Z.out.2⟩
set_option maxHeartbeats 4000000 in
theorem rrate_good4 (u x0 E m t s mm d : Nat) (w : World) (h : Rl u x0 E m t s) (ht : t ≠ 1) (hE : E = 1043) (hm : m = 0) (hmm : mm = m + 4503599627370496) (hd : d = 1075 - E) (hg : Rg u mm d) : Calls Tryz.prog 7 #[.int .u64 (u : Int)] w (MakesRRB w (fN (nz u) / Nat.gcd (fN (nz u)) (fD (nz u))) (fD (nz u) / Nat.gcd (fN (nz u)) (fD (nz u))) true) := by
  have RR : Hid (Rr u x0 E m t s) := h.rules
  have HG : Hid (Rg u mm d) := hg
  rw [hg.eN, hg.eD]
  have LF : Hid (∀ v w, RNat w v 1 → Calls Tryz.prog 20 #[v, .int .i64 (d : Int)] w (RMakes w (2 ^ d))) := fun v w h => by
    have := rleft_any v 1 d w h (rs_word (by omega)).rfits (by have := hg.dle; omega)
    rw [Nat.one_mul] at this
    exact this
  have d1 : decide (E = 2047) = false := decide_eq_false (by omega)
  have d1' : ((E : Int) == 2047) = false := by simp; omega
  have d12 : ¬ E = 2047 := by omega
  have d2 : decide (t = 1) = false := decide_eq_false (by omega)
  have d2' : ((t : Int) == 1) = false := by simp; omega
  have d22 : ¬ t = 1 := by omega
  have d4 : decide (1043 < E) = false := decide_eq_false (by omega)
  have d4' : decide ((1043 : Int) < (E : Int)) = false := decide_eq_false (by omega)
  have d5 : decide (E = 1043) = true := decide_eq_true hE
  have d5' : ((E : Int) == 1043) = true := by simp; omega
  have d6 : decide (0 < m) = false := decide_eq_false (by omega)
  have d6' : decide ((0 : Int) < (m : Int)) = false := decide_eq_false (by omega)
  have d8 : decide (E = 0) = false := decide_eq_false (by omega)
  have d8' : ((E : Int) == 0) = false := by simp; omega
  have d82 : ¬ E = 0 := by omega
  have d9 : decide (1075 ≤ E) = false := decide_eq_false (by omega)
  have d9' : decide ((1075 : Int) ≤ (E : Int)) = false := decide_eq_false (by omega)
  have emm : ((m + 4503599627370496 : Nat) : Int) = (mm : Int) := by omega
  have r11 : wrap64 (1075 - (E : Int)) = (d : Int) := by rw [IntWalk.wrap64_in _ ⟨by omega, by omega⟩]; omega
  clear ht hE hm hmm hd
  clear h hg
  obtain ⟨r2, r3, r5, r6, r7, r8, r9, r10⟩ := RR.out
  rw [emm] at r10
  clear emm
  have S1 : Hid _ := (sx_start w).box (.slice none 0 0) (.slice none 0 0) 35 _ rfl
  have f6 : (w.alloc (.cells #[.slice none 0 0, .slice none 0 0] 35)).frozen? ⟨w.heap.size, 0, none⟩ = false := by simp [go_sem]
  have f7 : (w.alloc (.cells #[.slice none 0 0, .slice none 0 0] 35)).frozen? ⟨w.heap.size, 1, none⟩ = false := by simp [go_sem]
  have FZ : Hid _ := And.intro f6 f7
  clear f6 f7
  go_enter Tryz.func7, Tryz.ntmps7
  go_wp2_with fail
  refine (rof_any mm _ (by have := HG.out.mlt; omega)).mono ?_
  rintro e w2 ⟨v2, rfl, hv2, hb2⟩
  obtain ⟨a1, n1, c1, rfl⟩ := hv2.isAgg
  have FZ : Hid (w2.frozen? ⟨w.heap.size, 0, none⟩ = false ∧ w2.frozen? ⟨w.heap.size, 1, none⟩ = false) := ⟨(hb2.frozen (World.block_lt_of_cell? _ _ (S1.out.cel w.heap.size 0 (.slice none 0 0)))).trans FZ.out.1, (hb2.frozen (World.block_lt_of_cell? _ _ (S1.out.cel w.heap.size 1 (.slice none 0 0)))).trans FZ.out.2⟩
  have S2 : Hid _ := (S1.out.go hb2).addM hv2
  clear hv2 hb2 S1
  go_wp2_with fail
  refine (rof_any 1 _ (by omega)).mono ?_
  rintro e w3 ⟨v3, rfl, hv3, hb3⟩
  obtain ⟨a2, n2, c2, rfl⟩ := hv3.isAgg
  have hbb := bel_go hb3 (bel_al (o := .cells #[.slice a2 n2 c2] 33) (bel_al (o := .cells #[.slice a1 n1 c1] 33) (bel_refl _)))
  have FZ : Hid (((w3.alloc (.cells #[.slice a1 n1 c1] 33)).alloc (.cells #[.slice a2 n2 c2] 33)).frozen? ⟨w.heap.size, 0, none⟩ = false ∧ ((w3.alloc (.cells #[.slice a1 n1 c1] 33)).alloc (.cells #[.slice a2 n2 c2] 33)).frozen? ⟨w.heap.size, 1, none⟩ = false) := ⟨(hbb.frozen (World.block_lt_of_cell? _ _ (S2.out.cel w.heap.size 0 (.slice none 0 0)))).trans FZ.out.1, (hbb.frozen (World.block_lt_of_cell? _ _ (S2.out.cel w.heap.size 1 (.slice none 0 0)))).trans FZ.out.2⟩
  have S3 : Hid _ := ((((S2.out.go hb3).addM hv3).box1 (.slice a1 n1 c1) 33 _ rfl).box1 (.slice a2 n2 c2) 33 _ rfl)
  simp only [World.size_alloc] at S3
  have ff : ((w3.alloc (.cells #[.slice a1 n1 c1] 33)).alloc (.cells #[.slice a2 n2 c2] 33)).frozen? ⟨w3.heap.size + 1, 0, none⟩ = false := by simp [go_sem]
  have HL : Hid (w.heap.size < w3.heap.size ∧ w.heap.size ≤ w3.heap.size) := by
    have := World.block_lt_of_cell? _ _ (cell_later hb3 (S2.out.cel w.heap.size 0 (.slice none 0 0)))
    exact ⟨this, Nat.le_of_lt this⟩
  clear hv3 hb3 hbb S2
  go_wp2_with fail
  obtain ⟨w4, hw4⟩ : ∃ w4, w4 = (w3.alloc (.cells #[.slice a1 n1 c1] 33)).alloc (.cells #[.slice a2 n2 c2] 33) := ⟨_, rfl⟩
  obtain ⟨g, hg⟩ : ∃ g, g = w3.heap.size := ⟨_, rfl⟩
  rw [← hw4, ← hg] at S3 ff
  rw [← hw4] at FZ
  rw [← hg] at HL
  rw [← hw4, ← hg]
  clear hw4 hg
  refine (LF.out _ _ (S3.out.rat (.agg #[.slice a2 n2 c2]) 1)).mono ?_
  rintro e w5 ⟨v5, rfl, hv5, hb5⟩
  obtain ⟨a5, n5, c5, rfl⟩ := hv5.isAgg
  have g0 := cell_later hb5 (S3.out.cel g 0 (.slice a1 n1 c1))
  have g1 := cell_later hb5 (S3.out.cel (g + 1) 0 (.slice a2 n2 c2))
  have g2 : w5.frozen? ⟨g + 1, 0, none⟩ = false := (hb5.frozen (World.block_lt_of_cell? _ _ (S3.out.cel (g + 1) 0 (.slice a2 n2 c2)))).trans ff
  have x0' := cell_later hb5 (S3.out.cel w.heap.size 0 (.slice none 0 0))
  have x1' := cell_later hb5 (S3.out.cel w.heap.size 1 (.slice none 0 0))
  have FZ : Hid (w5.frozen? ⟨w.heap.size, 0, none⟩ = false ∧ w5.frozen? ⟨w.heap.size, 1, none⟩ = false) := ⟨(hb5.frozen (World.block_lt_of_cell? _ _ (S3.out.cel w.heap.size 0 (.slice none 0 0)))).trans FZ.out.1, (hb5.frozen (World.block_lt_of_cell? _ _ (S3.out.cel w.heap.size 1 (.slice none 0 0)))).trans FZ.out.2⟩
  have S4 : Hid (RNat w5 (.agg #[.slice a1 n1 c1]) mm ∧ RNat w5 (.agg #[.slice a5 n5 c5]) (2 ^ d) ∧ Below w.heap.size w w5) := ⟨(S3.out.rat (.agg #[.slice a1 n1 c1]) mm).mono hb5, hv5, bel_go S3.out.bel hb5⟩
  clear hv5 hb5 S3 ff
  obtain ⟨W, hW⟩ : ∃ W, W = w5.setCell ⟨g + 1, 0, none⟩ (.slice a5 n5 c5) := ⟨_, rfl⟩
  have ne1 : w.heap.size ≠ g + 1 := by have := HL.out; omega
  have k0 : (w5.setCell ⟨g + 1, 0, none⟩ (.slice a5 n5 c5)).cell? ⟨g, 0, none⟩ = some (.slice a1 n1 c1) := by rw [World.cell?_setCell_far _ _ _ _ (by show g + 1 ≠ g; omega)]; exact g0
  have k1 : (w5.setCell ⟨g + 1, 0, none⟩ (.slice a5 n5 c5)).cell? ⟨g + 1, 0, none⟩ = some (.slice a5 n5 c5) := by simp [go_sem, g1]
  have S5 : Hid (RNat (w5.setCell ⟨g + 1, 0, none⟩ (.slice a5 n5 c5)) (.agg #[.slice a1 n1 c1]) mm ∧ RNat (w5.setCell ⟨g + 1, 0, none⟩ (.slice a5 n5 c5)) (.agg #[.slice a5 n5 c5]) (2 ^ d) ∧ Below w.heap.size w (w5.setCell ⟨g + 1, 0, none⟩ (.slice a5 n5 c5))) := ⟨S4.out.1.setCell (no_int_slice g1) _, S4.out.2.1.setCell (no_int_slice g1) _, S4.out.2.2.setCell (by have := HL.out; show _ ≤ g + 1; omega) _⟩
  have C5 : Hid ((w5.setCell ⟨g + 1, 0, none⟩ (.slice a5 n5 c5)).cell? ⟨w.heap.size, 0, none⟩ = some (.slice none 0 0) ∧ (w5.setCell ⟨g + 1, 0, none⟩ (.slice a5 n5 c5)).cell? ⟨w.heap.size, 1, none⟩ = some (.slice none 0 0) ∧ (w5.setCell ⟨g + 1, 0, none⟩ (.slice a5 n5 c5)).frozen? ⟨w.heap.size, 0, none⟩ = false ∧ (w5.setCell ⟨g + 1, 0, none⟩ (.slice a5 n5 c5)).frozen? ⟨w.heap.size, 1, none⟩ = false) := by
    refine ⟨?_, ?_, ?_, ?_⟩
    · rw [World.cell?_setCell_far _ _ _ _ (Ne.symm ne1)]; exact x0'
    · rw [World.cell?_setCell_far _ _ _ _ (Ne.symm ne1)]; exact x1'
    · rw [World.frozen?_setCell]; exact FZ.out.1
    · rw [World.frozen?_setCell]; exact FZ.out.2
  clear x0' x1' S4 g0 ne1 hW
  go_wp2_with fail
  refine (rfrom2_yes _ _ mm (2 ^ d) _ S5.out.1 S5.out.2.1 HG.out.some1 HG.out.some2 (Nat.two_pow_pos _)).mono ?_
  rintro e w6 ⟨v6, rfl, hv6, hb6⟩
  have hv' := hv6
  obtain ⟨a6, n6, c6, a7, n7, c7, ev, _, _⟩ := hv'
  subst ev
  have z0 := cell_later hb6 C5.out.1
  have z1 := cell_later hb6 C5.out.2.1
  have y0 := (hb6.frozen (World.block_lt_of_cell? _ _ C5.out.1)).trans C5.out.2.2.1
  have y1 := (hb6.frozen (World.block_lt_of_cell? _ _ C5.out.2.1)).trans C5.out.2.2.2
  have Z : Hid _ := rrat_put (w0 := w) (v := .slice a6 n6 c6) (u := .slice a7 n7 c7) z0 z1 hv6 (bel_go S5.out.2.2 hb6) (Nat.le_refl _)
  clear hv6 hb6 S5 C5 k0 k1 g1 g2
  go_wp2_with fail
  exact bodyPost_ret (v := .tuple #[.agg #[.slice a6 n6 c6, .slice a7 n7 c7], .bool true]) (by simp [results, Tryz.results7, go_sem, z0, z1]) rfl ⟨_, rfl, Z.out.1, Z.out.2⟩
end Go.Proofs.YthogfecnbddfoaaGreatDoor

namespace Go.Proofs.YthogfecnbddfoaaGreatDoor
open Go.RowKit
set_option maxRecDepth 100000
set_option linter.unusedVariables false
theorem gtM_neg0 : gtM 9223372036854775808 = false := by decide +kernel
theorem rrate_yes (u : Nat) (w : World) (hu : u < 18446744073709551616) (hF : isF u) (hg : gtM u = false) : Calls Tryz.prog 7 #[.int .u64 (u : Int)] w (MakesRRB w (fN (nz u) / Nat.gcd (fN (nz u)) (fD (nz u))) (fD (nz u) / Nat.gcd (fN (nz u)) (fD (nz u))) true) := by
  obtain ⟨x0, E, m, t, s, h⟩ := rl_of u hu
  have h1 := h.x
  have h2 := h.e
  have h3 := h.m
  have h4 := h.t
  have h5 := h.s
  by_cases e : u = 9223372036854775808
  · have e0 : nz u = 0 := if_pos e
    have eE : E = 0 := by omega
    have rg := rg_of (u := u) (E := E) (m := m) (by rw [e0]; omega) (by rw [e0]; omega) (by omega)
    rw [if_pos eE, if_pos eE] at rg
    exact rrate_good2 u x0 E m t s 1074 w h (by omega) (by omega) eE rfl rg
  · have hl : u < 9218868437227405312 := hF.resolve_left e
    have e0 : nz u = u := if_neg e
    have hK : ¬ 4697254411347427328 < u := by
      have := gtM_iff hl
      rw [hg] at this
      exact of_decide_eq_false this.symm
    have rg := rg_of (u := u) (E := E) (m := m) (by rw [e0]; omega) (by rw [e0]; omega) (by omega)
    by_cases eE : E = 0
    · rw [if_pos eE, if_pos eE] at rg
      exact rrate_good1 u x0 E m t s 1074 w h (by omega) eE rfl rg
    · rw [if_neg eE, if_neg eE] at rg
      by_cases e3 : E < 1043
      · exact rrate_good3 u x0 E m t s _ _ w h (by omega) (by omega) e3 rfl rfl rg
      · exact rrate_good4 u x0 E m t s _ _ w h (by omega) (by omega) (by omega) rfl rfl rg
theorem rrate_no (u : Nat) (w : World) (hu : u < 18446744073709551616) (hn : ¬ (isF u ∧ gtM u = false)) : Calls Tryz.prog 7 #[.int .u64 (u : Int)] w (MakesRRB w 0 1 false) := by
  obtain ⟨x0, E, m, t, s, h⟩ := rl_of u hu
  have h1 := h.x
  have h2 := h.e
  have h3 := h.m
  have h4 := h.t
  have h5 := h.s
  by_cases e1 : E = 2047
  · exact rrate_bad1 u x0 E m t s w h e1
  · by_cases e2 : u < 9223372036854775808
    · have hl : u < 9218868437227405312 := by omega
      have hK : 4697254411347427328 < u := by
        have h6 := gtM_iff hl
        by_cases h7 : 4697254411347427328 < u
        · exact h7
        · rw [decide_eq_false h7] at h6
          exact absurd ⟨.inr hl, h6⟩ hn
      by_cases e3 : 1043 < E
      · exact rrate_bad3 u x0 E m t s w h e1 (by omega) e3
      · exact rrate_bad4 u x0 E m t s w h (by omega) (by omega) (by omega)
    · have hs : s ≠ 0 := by
        intro es
        have : u = 9223372036854775808 := by omega
        exact hn ⟨.inl this, by rw [this]; exact gtM_neg0⟩
      exact rrate_bad2 u x0 E m t s w h e1 (by omega) hs
end Go.Proofs.YthogfecnbddfoaaGreatDoor

namespace Go.Proofs.YthogfecnbddfoaaGreatDoor
open Go.RowKit
set_option maxRecDepth 100000
set_option linter.unusedVariables false
/-- i digits of a difference are made, c is borrowed. -/
structure Mi (w0 wr : World) (v : Value) (F : Nat → Nat) (G : Nat → Nat) (m i c : Nat) (H : Nat → Nat) : Prop where
  own : OR wr 22 w0.heap.size v i (wd H)
  dg : Dg H i
  sum : U H i + U (cutU G m 0) i = U F i + c * B i
  car : c ≤ 1
  bel : Below w0.heap.size w0 wr
theorem mi_sum {F c b G f g s U1 : Nat} (hs : s + g + c = 4294967296 + f) (hl : s < 8589934592) (e : U1 + G = F + c * b) : U1 + s % 4294967296 * b + (G + g * b) = F + f * b + (1 - s / 4294967296) * (b * 4294967296) := by
  have h2 : (s + g + c) * b = (4294967296 + f) * b := by rw [hs]
  rcases Nat.lt_or_ge s 4294967296 with h | h
  · rw [Nat.mod_eq_of_lt h, Nat.div_eq_of_lt h]
    grind
  · obtain ⟨z, rfl⟩ : ∃ z, s = 4294967296 + z := ⟨s - 4294967296, by omega⟩
    rw [show (4294967296 + z) % 4294967296 = z by omega, show (4294967296 + z) / 4294967296 = 1 by omega]
    grind
theorem Mi.step {w0 wr w2 : World} {v v2 : Value} {F G H : Nat → Nat} {m i c g : Nat} (h : Mi w0 wr v F G m i c H) (hg : g = cutU G m 0 i) (lf : F i < 4294967296) (lg : g < 4294967296)
    (ho : OR w2 22 w0.heap.size v2 (i + 1) (fun j => if j = i then .int .u64 (((4294967296 + F i - g - c : Nat) : Int) % 4294967296) else wd H j)) (hb : Below w0.heap.size w0 w2) :
    Mi w0 w2 v2 F G m (i + 1) (1 - (4294967296 + F i - g - c) / 4294967296) (put H i ((4294967296 + F i - g - c) % 4294967296)) := by
  have hc := h.car
  refine ⟨OR.congr ho fun j hj => ?_, fun j hj => ?_, ?_, by omega, hb⟩
  · unfold wd put
    split
    · congr 1
    · rfl
  · unfold put
    split
    · exact Nat.mod_lt _ (by decide)
    · exact h.dg j (by omega)
  · rw [U_succ, U_succ, U_succ, put_same, U_congr (F := put H i _) (G := H) fun j hj => put_other _ _ (by omega), ← hg, B_succ]
    exact mi_sum (by omega) (by omega) h.sum
theorem Mi.done {w0 wr : World} {v : Value} {F G H : Nat → Nat} {n m c : Nat} (h : Mi w0 wr v F G m n c H) (hm : m ≤ n) (dF : Dg F n) (hle : U G m ≤ U F n) : U H n = U F n - U G m := by
  have h1 := h.sum
  rw [U_cut hm] at h1
  have h2 := U_lt h.dg
  have h5 : c = 0 ∨ c = 1 := by have := h.car; omega
  rcases h5 with rfl | rfl <;> omega
end Go.Proofs.YthogfecnbddfoaaGreatDoor

