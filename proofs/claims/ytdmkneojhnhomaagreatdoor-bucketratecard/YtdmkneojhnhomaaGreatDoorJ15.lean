/- Contracts of the program's functions, part 15: own work, joined in build order. -/
import Derived.Test.YtdmkneojhnhomaaGreatDoorJ14
import Derived.Laws.Bits64b
import Derived.LaidEqlPtr
namespace Go.Proofs.YtdmkneojhnhomaaGreatDoor
open Go.RowKit
set_option maxRecDepth 100000
set_option linter.unusedVariables false
theorem dbl_sign : Ieee.double.signWeight = 9223372036854775808 := by decide
theorem dbl_bin : Ieee.double.binade = 4503599627370496 := by decide
theorem dbl_inf : Ieee.double.infRung = 9218868437227405312 := by decide
theorem dbl_least : Ieee.double.leastPlace = -1074 := by decide
theorem read_num {u : Nat} (h : u < 9218868437227405312) : Ieee.double.read u = .number false (fm u) (-1074 + (fe u : Int)) := by
  have h1 : (u / 9223372036854775808 % 2 == 1) = false := by rw [Nat.div_eq_of_lt (by omega)]; rfl
  have h2 : u % 9223372036854775808 = u := Nat.mod_eq_of_lt (by omega)
  unfold Ieee.Format.read
  rw [dbl_sign, dbl_bin, dbl_inf, dbl_least, h2]
  simp only [h1]
  unfold fm fe
  by_cases hs : u < 4503599627370496
  · have e0 : u / 4503599627370496 = 0 := Nat.div_eq_of_lt hs
    have e1 : u % 4503599627370496 = u := Nat.mod_eq_of_lt hs
    rw [if_pos hs, e0, if_pos rfl, e1]
    rfl
  · have e0 : ¬ u / 4503599627370496 = 0 := by omega
    rw [if_neg hs, if_pos h, if_neg e0, Nat.add_comm]
theorem signed_pos (m k : Nat) : Ieee.signed false m k = ((m * 2 ^ k : Nat) : Int) := by
  unfold Ieee.signed
  rw [Nat.shiftLeft_eq]
  simp
theorem order_gt {m n i j : Nat} : ((Ieee.Datum.number false m (-1074 + (i : Int))).order (.number false n (-1074 + (j : Int))) == some .gt) = decide (n * 2 ^ j < m * 2 ^ i) := by
  unfold Ieee.Datum.order
  simp only [signed_pos]
  by_cases h : i ≤ j
  · have e1 : (-1074 + (i : Int) - min (-1074 + (i : Int)) (-1074 + (j : Int))).toNat = 0 := by omega
    have e2 : (-1074 + (j : Int) - min (-1074 + (i : Int)) (-1074 + (j : Int))).toNat = j - i := by omega
    have e3 : n * 2 ^ j = n * 2 ^ (j - i) * 2 ^ i := by rw [Nat.mul_assoc, ← Nat.pow_add, show j - i + i = j by omega]
    rw [e1, e2, e3, Nat.pow_zero, Nat.mul_one]
    have e4 : (n * 2 ^ (j - i) * 2 ^ i < m * 2 ^ i) ↔ n * 2 ^ (j - i) < m := Nat.mul_lt_mul_right (Nat.two_pow_pos i)
    generalize n * 2 ^ (j - i) = a at *
    rw [decide_eq_decide.2 e4]
    rcases Nat.lt_trichotomy a m with h5 | h5 | h5
    · rw [decide_eq_true h5]
      have : compare (m : Int) (a : Int) = .gt := Int.compare_eq_gt.2 (by omega)
      rw [this]; rfl
    · rw [decide_eq_false (by omega)]
      have : compare (m : Int) (a : Int) = .eq := Int.compare_eq_eq.2 (by omega)
      rw [this]; rfl
    · rw [decide_eq_false (by omega)]
      have : compare (m : Int) (a : Int) = .lt := Int.compare_eq_lt.2 (by omega)
      rw [this]; rfl
  · have e1 : (-1074 + (i : Int) - min (-1074 + (i : Int)) (-1074 + (j : Int))).toNat = i - j := by omega
    have e2 : (-1074 + (j : Int) - min (-1074 + (i : Int)) (-1074 + (j : Int))).toNat = 0 := by omega
    have e3 : m * 2 ^ i = m * 2 ^ (i - j) * 2 ^ j := by rw [Nat.mul_assoc, ← Nat.pow_add, show i - j + j = i by omega]
    rw [e1, e2, e3, Nat.pow_zero, Nat.mul_one]
    have e4 : (n * 2 ^ j < m * 2 ^ (i - j) * 2 ^ j) ↔ n < m * 2 ^ (i - j) := Nat.mul_lt_mul_right (Nat.two_pow_pos j)
    generalize m * 2 ^ (i - j) = a at *
    rw [decide_eq_decide.2 e4]
    rcases Nat.lt_trichotomy n a with h5 | h5 | h5
    · rw [decide_eq_true h5]
      have : compare (a : Int) (n : Int) = .gt := Int.compare_eq_gt.2 (by omega)
      rw [this]; rfl
    · rw [decide_eq_false (by omega)]
      have : compare (a : Int) (n : Int) = .eq := Int.compare_eq_eq.2 (by omega)
      rw [this]; rfl
    · rw [decide_eq_false (by omega)]
      have : compare (a : Int) (n : Int) = .lt := Int.compare_eq_lt.2 (by omega)
      rw [this]; rfl
theorem gtM_val {u : Nat} (h : u < 9218868437227405312) : gtM u = decide (4503599627370496 * 2 ^ 1042 < fm u * 2 ^ fe u) := by
  have hK := read_num (u := 4697254411347427328) (by omega)
  rw [show fm 4697254411347427328 = 4503599627370496 by decide, show fe 4697254411347427328 = 1042 by decide] at hK
  show ((Ieee.double.read u).order (Ieee.double.read 4697254411347427328) == some .gt) = _
  rw [read_num h, hK]
  exact order_gt
theorem pow_split {e c : Nat} (h : c ≤ e) : 2 ^ e = 2 ^ c * 2 ^ (e - c) := by rw [← Nat.pow_add, show c + (e - c) = e by omega]
theorem gtM_iff {u : Nat} (h : u < 9218868437227405312) : gtM u = decide (4697254411347427328 < u) := by
  rw [gtM_val h]
  refine decide_eq_decide.2 ?_
  have hm := fm_lt u
  have hm' : fm u < 9007199254740992 := hm
  obtain ⟨c, hc⟩ : ∃ c, c = 1042 := ⟨_, rfl⟩
  rw [← hc]
  rcases Nat.lt_trichotomy (fe u) c with h1 | h1 | h1
  · have h2 : 2 ^ c = 2 ^ (fe u + 1) * 2 ^ (c - (fe u + 1)) := pow_split (by omega)
    have h3 : 0 < 2 ^ (c - (fe u + 1)) := Nat.two_pow_pos _
    have h4 : 0 < 2 ^ fe u := Nat.two_pow_pos _
    have h5 : 2 ^ (fe u + 1) = 2 * 2 ^ fe u := by rw [Nat.pow_succ, Nat.mul_comm]
    have h6 : fm u * 2 ^ fe u < 9007199254740992 * 2 ^ fe u := Nat.mul_lt_mul_of_pos_right hm' h4
    have h7 : 9007199254740992 * 2 ^ fe u ≤ 4503599627370496 * 2 ^ c := by
      rw [h2, h5]
      calc 9007199254740992 * 2 ^ fe u = 4503599627370496 * (2 * 2 ^ fe u) * 1 := by omega
        _ ≤ 4503599627370496 * (2 * 2 ^ fe u) * 2 ^ (c - (fe u + 1)) := Nat.mul_le_mul_left _ h3
        _ = 4503599627370496 * (2 * 2 ^ fe u * 2 ^ (c - (fe u + 1))) := by rw [Nat.mul_assoc 4503599627370496]
    have h8 : ¬ 4697254411347427328 < u := by
      unfold fe at h1
      omega
    constructor
    · intro h9; omega
    · intro h9; exact absurd h9 h8
  · rw [h1]
    have h4 : 0 < 2 ^ c := Nat.two_pow_pos _
    rw [Nat.mul_lt_mul_right h4]
    unfold fe at h1
    have e0 : ¬ u / 4503599627370496 = 0 := by omega
    unfold fm
    rw [if_neg e0]
    omega
  · have h2 : 2 ^ fe u = 2 ^ (c + 1) * 2 ^ (fe u - (c + 1)) := pow_split (by omega)
    have h3 : 0 < 2 ^ (fe u - (c + 1)) := Nat.two_pow_pos _
    have h4 : 0 < 2 ^ c := Nat.two_pow_pos _
    have h5 : 2 ^ (c + 1) = 2 * 2 ^ c := by rw [Nat.pow_succ, Nat.mul_comm]
    have e0 : ¬ u / 4503599627370496 = 0 := by unfold fe at h1; omega
    have h6 : 4503599627370496 ≤ fm u := by unfold fm; rw [if_neg e0]; omega
    have h7 : 4503599627370496 * (2 * 2 ^ c) ≤ fm u * 2 ^ fe u := by
      rw [h2, h5]
      refine Nat.mul_le_mul h6 ?_
      exact Nat.le_mul_of_pos_right _ h3
    have h8 : 4697254411347427328 < u := by
      unfold fe at h1
      omega
    constructor
    · intro _; exact h8
    · intro _; omega
end Go.Proofs.YtdmkneojhnhomaaGreatDoor
namespace Go.Proofs.YtdmkneojhnhomaaGreatDoor
open Go.RowKit
set_option maxRecDepth 100000
set_option linter.unusedVariables false
theorem and_2047 (x : Nat) (h : x < 18446744073709551616) : bits .and .u64 (x : Int) 2047 = ((x % 2048 : Nat) : Int) := by
  have := bits_and_u64_nat x 2047 h (by omega)
  rw [show (2047 : Nat) = 2 ^ 11 - 1 from rfl, Nat.and_two_pow_sub_one_eq_mod] at this
  exact this
theorem and_low52 (x : Nat) (h : x < 18446744073709551616) : bits .and .u64 (x : Int) 4503599627370495 = ((x % 4503599627370496 : Nat) : Int) := by
  have := bits_and_u64_nat x 4503599627370495 h (by omega)
  rw [show (4503599627370495 : Nat) = 2 ^ 52 - 1 from rfl, Nat.and_two_pow_sub_one_eq_mod] at this
  exact this
theorem or_52 (m : Nat) (h : m < 4503599627370496) : bits .or .u64 (m : Int) 4503599627370496 = ((m + 4503599627370496 : Nat) : Int) := by
  have := bits_or_u64_nat m 4503599627370496 (by omega) (by omega)
  rw [Nat.or_comm, show (4503599627370496 : Nat) = 2 ^ 52 * 1 from rfl, ← Nat.two_pow_add_eq_or_of_lt (show m < 2 ^ 52 from h)] at this
  rw [Nat.add_comm m]
  exact this
/-- What Rate looks at. -/
structure Rl (u x0 E m t s : Nat) : Prop where
  lt : u < 18446744073709551616
  x : x0 = u / 4503599627370496
  e : E = x0 % 2048
  m : m = u % 4503599627370496
  t : t = u / 9223372036854775808
  s : s = u * 2 % 18446744073709551616
theorem rl_of (u : Nat) (h : u < 18446744073709551616) : ∃ x0 E m t s, Rl u x0 E m t s := ⟨_, _, _, _, _, h, rfl, rfl, rfl, rfl, rfl⟩
structure Rr (u x0 E m t s : Nat) : Prop where
  r2 : (u : Int) / 4503599627370496 = (x0 : Int)
  r3 : bits .and .u64 (x0 : Int) 2047 = (E : Int)
  r5 : bits .and .u64 (u : Int) 4503599627370495 = (m : Int)
  r6 : (u : Int) / 9223372036854775808 = (t : Int)
  r7 : IntKind.u64.wrap ((u : Int) * 2) = (s : Int)
  r8 : wrap64 (E : Int) = (E : Int)
  r9 : IntKind.i64.wrap (E : Int) = (E : Int)
  r10 : bits .or .u64 (m : Int) 4503599627370496 = ((m + 4503599627370496 : Nat) : Int)
theorem Rl.rules {u x0 E m t s : Nat} (h : Rl u x0 E m t s) : Rr u x0 E m t s := by
  obtain ⟨h0, h1, h2, h3, h4, h5⟩ := h
  have hE : E < 2048 := by rw [h2]; exact Nat.mod_lt _ (by omega)
  refine ⟨by omega, ?_, ?_, by omega, by rw [IntKind.wrap_u64]; omega, IntWalk.wrap64_in _ ⟨by omega, by omega⟩, by rw [IntKind.wrap_i64]; omega, or_52 m (by omega)⟩
  · rw [h2]; exact and_2047 x0 (by omega)
  · rw [h3]; exact and_low52 u h0
set_option maxHeartbeats 4000000 in
theorem rrate_bad1 (u x0 E m t s : Nat) (w : World) (h : Rl u x0 E m t s) (h1 : E = 2047) : Calls Tryz.prog 21 #[.int .u64 (u : Int)] w (MakesRRB w 0 1 false) := by
  have RR : Hid (Rr u x0 E m t s) := h.rules
  have d1 : decide (E = 2047) = true := decide_eq_true h1
  have d1' : ((E : Int) == 2047) = true := by simp; omega
  clear h1
  clear h
  obtain ⟨r2, r3, r5, r6, r7, r8, r9, r10⟩ := RR.out
  go_enter Tryz.func21, Tryz.ntmps21
  go_wp2_with fail
  refine (rzero2_any _).mono ?_
  rintro e w1 ⟨v1, rfl, hv1, hb1⟩
  have hv' := hv1
  obtain ⟨a6, n6, c6, a7, n7, c7, ev, _, _⟩ := hv'
  subst ev
  have z0 : w1.cell? ⟨w.heap.size, 0, none⟩ = some (.slice none 0 0) := cell_later hb1 (by simp [go_sem])
  have z1 : w1.cell? ⟨w.heap.size, 1, none⟩ = some (.slice none 0 0) := cell_later hb1 (by simp [go_sem])
  have y0 : w1.frozen? ⟨w.heap.size, 0, none⟩ = false := (hb1.frozen (by simp)).trans (by simp [go_sem])
  have y1 : w1.frozen? ⟨w.heap.size, 1, none⟩ = false := (hb1.frozen (by simp)).trans (by simp [go_sem])
  have Z : Hid _ := rrat_put (v := .slice a6 n6 c6) (u := .slice a7 n7 c7) z0 z1 hv1 (bel_go (bel_al (bel_refl w)) hb1) (Nat.le_refl _)
  clear hv1 hb1
  go_wp2_with fail
  exact bodyPost_ret (v := .tuple #[.agg #[.slice a6 n6 c6, .slice a7 n7 c7], .bool false]) (by simp [results, Tryz.results21, go_sem, z0, z1]) rfl ⟨_, rfl, Z.out.1, Z.out.2⟩
set_option maxHeartbeats 4000000 in
theorem rrate_bad2 (u x0 E m t s : Nat) (w : World) (h : Rl u x0 E m t s) (h1 : E ≠ 2047) (h2 : t = 1) (h3 : s ≠ 0) : Calls Tryz.prog 21 #[.int .u64 (u : Int)] w (MakesRRB w 0 1 false) := by
  have RR : Hid (Rr u x0 E m t s) := h.rules
  have d1 : decide (E = 2047) = false := decide_eq_false (by omega)
  have d1' : ((E : Int) == 2047) = false := by simp; omega
  have d12 : ¬ E = 2047 := by omega
  have d2 : decide (t = 1) = true := decide_eq_true h2
  have d2' : ((t : Int) == 1) = true := by simp; omega
  have d3 : decide (s = 0) = false := decide_eq_false (by omega)
  have d3' : ((s : Int) == 0) = false := by simp; omega
  have d32 : ¬ s = 0 := by omega
  clear h1 h2 h3
  clear h
  obtain ⟨r2, r3, r5, r6, r7, r8, r9, r10⟩ := RR.out
  go_enter Tryz.func21, Tryz.ntmps21
  go_wp2_with fail
  refine (rzero2_any _).mono ?_
  rintro e w1 ⟨v1, rfl, hv1, hb1⟩
  have hv' := hv1
  obtain ⟨a6, n6, c6, a7, n7, c7, ev, _, _⟩ := hv'
  subst ev
  have z0 : w1.cell? ⟨w.heap.size, 0, none⟩ = some (.slice none 0 0) := cell_later hb1 (by simp [go_sem])
  have z1 : w1.cell? ⟨w.heap.size, 1, none⟩ = some (.slice none 0 0) := cell_later hb1 (by simp [go_sem])
  have y0 : w1.frozen? ⟨w.heap.size, 0, none⟩ = false := (hb1.frozen (by simp)).trans (by simp [go_sem])
  have y1 : w1.frozen? ⟨w.heap.size, 1, none⟩ = false := (hb1.frozen (by simp)).trans (by simp [go_sem])
  have Z : Hid _ := rrat_put (v := .slice a6 n6 c6) (u := .slice a7 n7 c7) z0 z1 hv1 (bel_go (bel_al (bel_refl w)) hb1) (Nat.le_refl _)
  clear hv1 hb1
  go_wp2_with fail
  exact bodyPost_ret (v := .tuple #[.agg #[.slice a6 n6 c6, .slice a7 n7 c7], .bool false]) (by simp [results, Tryz.results21, go_sem, z0, z1]) rfl ⟨_, rfl, Z.out.1, Z.out.2⟩
set_option maxHeartbeats 4000000 in
theorem rrate_bad3 (u x0 E m t s : Nat) (w : World) (h : Rl u x0 E m t s) (h1 : E ≠ 2047) (h2 : t ≠ 1) (h3 : 1043 < E) : Calls Tryz.prog 21 #[.int .u64 (u : Int)] w (MakesRRB w 0 1 false) := by
  have RR : Hid (Rr u x0 E m t s) := h.rules
  have d1 : decide (E = 2047) = false := decide_eq_false (by omega)
  have d1' : ((E : Int) == 2047) = false := by simp; omega
  have d12 : ¬ E = 2047 := by omega
  have d2 : decide (t = 1) = false := decide_eq_false (by omega)
  have d2' : ((t : Int) == 1) = false := by simp; omega
  have d22 : ¬ t = 1 := by omega
  have d4 : decide (1043 < E) = true := decide_eq_true (by omega)
  have d4' : decide ((1043 : Int) < (E : Int)) = true := decide_eq_true (by omega)
  clear h
  obtain ⟨r2, r3, r5, r6, r7, r8, r9, r10⟩ := RR.out
  go_enter Tryz.func21, Tryz.ntmps21
  go_wp2_with fail
  refine (rzero2_any _).mono ?_
  rintro e w1 ⟨v1, rfl, hv1, hb1⟩
  have hv' := hv1
  obtain ⟨a6, n6, c6, a7, n7, c7, ev, _, _⟩ := hv'
  subst ev
  have z0 : w1.cell? ⟨w.heap.size, 0, none⟩ = some (.slice none 0 0) := cell_later hb1 (by simp [go_sem])
  have z1 : w1.cell? ⟨w.heap.size, 1, none⟩ = some (.slice none 0 0) := cell_later hb1 (by simp [go_sem])
  have y0 : w1.frozen? ⟨w.heap.size, 0, none⟩ = false := (hb1.frozen (by simp)).trans (by simp [go_sem])
  have y1 : w1.frozen? ⟨w.heap.size, 1, none⟩ = false := (hb1.frozen (by simp)).trans (by simp [go_sem])
  have Z : Hid _ := rrat_put (v := .slice a6 n6 c6) (u := .slice a7 n7 c7) z0 z1 hv1 (bel_go (bel_al (bel_refl w)) hb1) (Nat.le_refl _)
  clear hv1 hb1
  go_wp2_with fail
  exact bodyPost_ret (v := .tuple #[.agg #[.slice a6 n6 c6, .slice a7 n7 c7], .bool false]) (by simp [results, Tryz.results21, go_sem, z0, z1]) rfl ⟨_, rfl, Z.out.1, Z.out.2⟩
set_option maxHeartbeats 4000000 in
theorem rrate_bad4 (u x0 E m t s : Nat) (w : World) (h : Rl u x0 E m t s) (h2 : t ≠ 1) (h3 : E = 1043) (h4 : 0 < m) : Calls Tryz.prog 21 #[.int .u64 (u : Int)] w (MakesRRB w 0 1 false) := by
  have RR : Hid (Rr u x0 E m t s) := h.rules
  have d1 : decide (E = 2047) = false := decide_eq_false (by omega)
  have d1' : ((E : Int) == 2047) = false := by simp; omega
  have d12 : ¬ E = 2047 := by omega
  have d2 : decide (t = 1) = false := decide_eq_false (by omega)
  have d2' : ((t : Int) == 1) = false := by simp; omega
  have d22 : ¬ t = 1 := by omega
  have d4 : decide (1043 < E) = false := decide_eq_false (by omega)
  have d4' : decide ((1043 : Int) < (E : Int)) = false := decide_eq_false (by omega)
  have d5 : decide (E = 1043) = true := decide_eq_true h3
  have d5' : ((E : Int) == 1043) = true := by simp; omega
  have d6 : decide (0 < m) = true := decide_eq_true (by omega)
  have d6' : decide ((0 : Int) < (m : Int)) = true := decide_eq_true (by omega)
  clear h3
  clear h
  obtain ⟨r2, r3, r5, r6, r7, r8, r9, r10⟩ := RR.out
  go_enter Tryz.func21, Tryz.ntmps21
  go_wp2_with fail
  refine (rzero2_any _).mono ?_
  rintro e w1 ⟨v1, rfl, hv1, hb1⟩
  have hv' := hv1
  obtain ⟨a6, n6, c6, a7, n7, c7, ev, _, _⟩ := hv'
  subst ev
  have z0 : w1.cell? ⟨w.heap.size, 0, none⟩ = some (.slice none 0 0) := cell_later hb1 (by simp [go_sem])
  have z1 : w1.cell? ⟨w.heap.size, 1, none⟩ = some (.slice none 0 0) := cell_later hb1 (by simp [go_sem])
  have y0 : w1.frozen? ⟨w.heap.size, 0, none⟩ = false := (hb1.frozen (by simp)).trans (by simp [go_sem])
  have y1 : w1.frozen? ⟨w.heap.size, 1, none⟩ = false := (hb1.frozen (by simp)).trans (by simp [go_sem])
  have Z : Hid _ := rrat_put (v := .slice a6 n6 c6) (u := .slice a7 n7 c7) z0 z1 hv1 (bel_go (bel_al (bel_refl w)) hb1) (Nat.le_refl _)
  clear hv1 hb1
  go_wp2_with fail
  exact bodyPost_ret (v := .tuple #[.agg #[.slice a6 n6 c6, .slice a7 n7 c7], .bool false]) (by simp [results, Tryz.results21, go_sem, z0, z1]) rfl ⟨_, rfl, Z.out.1, Z.out.2⟩
end Go.Proofs.YtdmkneojhnhomaaGreatDoor
namespace Go.Proofs.YtdmkneojhnhomaaGreatDoor
open Go.RowKit
set_option maxRecDepth 100000
set_option linter.unusedVariables false
/-- What comes of it. -/
structure Rg (u mm d : Nat) : Prop where
  mlt : mm < 9007199254740992
  dle : d ≤ 1074
  eN : fN (nz u) = mm
  eD : fD (nz u) = 2 ^ d
theorem Rg.some1 {u mm d : Nat} (h : Rg u mm d) : RSome mm := rsome_word (by have := h.mlt; omega)
theorem Rg.some2 {u mm d : Nat} (h : Rg u mm d) : RSome (2 ^ d) := by
  have h1 : 2 ^ d < P 17 := two_P (by have := h.dle; omega)
  exact (RS.rsome ⟨P_up h1 (by omega)⟩)
theorem rg_of {u E m : Nat} (hE : E = nz u / 4503599627370496) (hm : m = nz u % 4503599627370496) (h : E ≤ 1043) : Rg u (if E = 0 then m else m + 4503599627370496) (1075 - (if E = 0 then 1 else E)) := by
  have hf : fe (nz u) - 1074 = 0 := by unfold fe; omega
  refine ⟨?_, ?_, ?_, ?_⟩
  · split <;> omega
  · split <;> omega
  · unfold fN
    rw [hf, Nat.pow_zero, Nat.mul_one]
    unfold fm
    rw [← hE, ← hm]
  · unfold fD fe
    rw [← hE]
    congr 1
    split <;> omega
set_option maxHeartbeats 4000000 in
theorem rrate_good1 (u x0 E m t s d : Nat) (w : World) (h : Rl u x0 E m t s) (ht : t ≠ 1) (he : E = 0) (hd : d = 1074) (hg : Rg u m d) : Calls Tryz.prog 21 #[.int .u64 (u : Int)] w (MakesRRB w (fN (nz u) / Nat.gcd (fN (nz u)) (fD (nz u))) (fD (nz u) / Nat.gcd (fN (nz u)) (fD (nz u))) true) := by
  have RR : Hid (Rr u x0 E m t s) := h.rules
  have HG : Hid (Rg u m d) := hg
  rw [hg.eN, hg.eD]
  have LF : Hid (∀ v w, RNat w v 1 → Calls Tryz.prog 49 #[v, .int .i64 1074] w (RMakes w (2 ^ d))) := fun v w h => by
    have := rleft_any v 1 d w h (rs_word (by omega)).rfits (by have := hg.dle; omega)
    rw [Nat.one_mul] at this
    rw [show (d : Int) = 1074 by omega] at this
    exact this
  have d1 : decide (E = 2047) = false := decide_eq_false (by omega)
  have d1' : ((E : Int) == 2047) = false := by simp; omega
  have d12 : ¬ E = 2047 := by omega
  have d2 : decide (t = 1) = false := decide_eq_false (by omega)
  have d2' : ((t : Int) == 1) = false := by simp; omega
  have d22 : ¬ t = 1 := by omega
  have d4 : decide (1043 < E) = false := decide_eq_false (by omega)
  have d4' : decide ((1043 : Int) < (E : Int)) = false := decide_eq_false (by omega)
  have d5 : decide (E = 1043) = false := decide_eq_false (by omega)
  have d5' : ((E : Int) == 1043) = false := by simp; omega
  have d52 : ¬ E = 1043 := by omega
  have d8 : decide (E = 0) = true := decide_eq_true he
  have d8' : ((E : Int) == 0) = true := by simp; omega
  clear ht he hd
  clear h hg
  obtain ⟨r2, r3, r5, r6, r7, r8, r9, r10⟩ := RR.out
  clear r10
  have S1 : Hid _ := (sx_start w).box (.slice none 0 0) (.slice none 0 0) 35 _ rfl
  have f6 : (w.alloc (.cells #[.slice none 0 0, .slice none 0 0] 35)).frozen? ⟨w.heap.size, 0, none⟩ = false := by simp [go_sem]
  have f7 : (w.alloc (.cells #[.slice none 0 0, .slice none 0 0] 35)).frozen? ⟨w.heap.size, 1, none⟩ = false := by simp [go_sem]
  have FZ : Hid _ := And.intro f6 f7
  clear f6 f7
  go_enter Tryz.func21, Tryz.ntmps21
  go_wp2_with fail
  refine (rof_any m _ (by have := HG.out.mlt; omega)).mono ?_
  rintro e w2 ⟨v2, rfl, hv2, hb2⟩
  obtain ⟨a1, n1, c1, rfl⟩ := hv2.isAgg
  have FZ : Hid (w2.frozen? ⟨w.heap.size, 0, none⟩ = false ∧ w2.frozen? ⟨w.heap.size, 1, none⟩ = false) := ⟨(hb2.frozen (World.block_lt_of_cell? _ _ (S1.out.cel w.heap.size 0 (.slice none 0 0)))).trans FZ.out.1, (hb2.frozen (World.block_lt_of_cell? _ _ (S1.out.cel w.heap.size 1 (.slice none 0 0)))).trans FZ.out.2⟩
  have S2 : Hid _ := (S1.out.go hb2).addM hv2
  clear hv2 hb2 S1
  go_wp2_with fail
  refine (rof_any 1 _ (by omega)).mono ?_
  rintro e w3 ⟨v3, rfl, hv3, hb3⟩
  obtain ⟨a2, n2, c2, rfl⟩ := hv3.isAgg
  have hbb := bel_go hb3 (bel_al (o := .cells #[.slice a2 n2 c2] 33) (bel_al (o := .cells #[.slice a1 n1 c1] 33) (bel_refl _)))
  have FZ : Hid (((w3.alloc (.cells #[.slice a1 n1 c1] 33)).alloc (.cells #[.slice a2 n2 c2] 33)).frozen? ⟨w.heap.size, 0, none⟩ = false ∧ ((w3.alloc (.cells #[.slice a1 n1 c1] 33)).alloc (.cells #[.slice a2 n2 c2] 33)).frozen? ⟨w.heap.size, 1, none⟩ = false) := ⟨(hbb.frozen (World.block_lt_of_cell? _ _ (S2.out.cel w.heap.size 0 (.slice none 0 0)))).trans FZ.out.1, (hbb.frozen (World.block_lt_of_cell? _ _ (S2.out.cel w.heap.size 1 (.slice none 0 0)))).trans FZ.out.2⟩
  have S3 : Hid _ := ((((S2.out.go hb3).addM hv3).box1 (.slice a1 n1 c1) 33 _ rfl).box1 (.slice a2 n2 c2) 33 _ rfl)
  simp only [World.size_alloc] at S3
  have ff : ((w3.alloc (.cells #[.slice a1 n1 c1] 33)).alloc (.cells #[.slice a2 n2 c2] 33)).frozen? ⟨w3.heap.size + 1, 0, none⟩ = false := by simp [go_sem]
  have HL : Hid (w.heap.size < w3.heap.size ∧ w.heap.size ≤ w3.heap.size) := by
    have := World.block_lt_of_cell? _ _ (cell_later hb3 (S2.out.cel w.heap.size 0 (.slice none 0 0)))
    exact ⟨this, Nat.le_of_lt this⟩
  clear hv3 hb3 hbb S2
  go_wp2_with fail
  obtain ⟨w4, hw4⟩ : ∃ w4, w4 = (w3.alloc (.cells #[.slice a1 n1 c1] 33)).alloc (.cells #[.slice a2 n2 c2] 33) := ⟨_, rfl⟩
  obtain ⟨g, hg⟩ : ∃ g, g = w3.heap.size := ⟨_, rfl⟩
  rw [← hw4, ← hg] at S3 ff
  rw [← hw4] at FZ
  rw [← hg] at HL
  rw [← hw4, ← hg]
  clear hw4 hg
  refine (LF.out _ _ (S3.out.rat (.agg #[.slice a2 n2 c2]) 1)).mono ?_
  rintro e w5 ⟨v5, rfl, hv5, hb5⟩
  obtain ⟨a5, n5, c5, rfl⟩ := hv5.isAgg
  have g0 := cell_later hb5 (S3.out.cel g 0 (.slice a1 n1 c1))
  have g1 := cell_later hb5 (S3.out.cel (g + 1) 0 (.slice a2 n2 c2))
  have g2 : w5.frozen? ⟨g + 1, 0, none⟩ = false := (hb5.frozen (World.block_lt_of_cell? _ _ (S3.out.cel (g + 1) 0 (.slice a2 n2 c2)))).trans ff
  have x0' := cell_later hb5 (S3.out.cel w.heap.size 0 (.slice none 0 0))
  have x1' := cell_later hb5 (S3.out.cel w.heap.size 1 (.slice none 0 0))
  have FZ : Hid (w5.frozen? ⟨w.heap.size, 0, none⟩ = false ∧ w5.frozen? ⟨w.heap.size, 1, none⟩ = false) := ⟨(hb5.frozen (World.block_lt_of_cell? _ _ (S3.out.cel w.heap.size 0 (.slice none 0 0)))).trans FZ.out.1, (hb5.frozen (World.block_lt_of_cell? _ _ (S3.out.cel w.heap.size 1 (.slice none 0 0)))).trans FZ.out.2⟩
  have S4 : Hid (RNat w5 (.agg #[.slice a1 n1 c1]) m ∧ RNat w5 (.agg #[.slice a5 n5 c5]) (2 ^ d) ∧ Below w.heap.size w w5) := ⟨(S3.out.rat (.agg #[.slice a1 n1 c1]) m).mono hb5, hv5, bel_go S3.out.bel hb5⟩
  clear hv5 hb5 S3 ff
  obtain ⟨W, hW⟩ : ∃ W, W = w5.setCell ⟨g + 1, 0, none⟩ (.slice a5 n5 c5) := ⟨_, rfl⟩
  have ne1 : w.heap.size ≠ g + 1 := by have := HL.out; omega
  have k0 : (w5.setCell ⟨g + 1, 0, none⟩ (.slice a5 n5 c5)).cell? ⟨g, 0, none⟩ = some (.slice a1 n1 c1) := by rw [World.cell?_setCell_far _ _ _ _ (by show g + 1 ≠ g; omega)]; exact g0
  have k1 : (w5.setCell ⟨g + 1, 0, none⟩ (.slice a5 n5 c5)).cell? ⟨g + 1, 0, none⟩ = some (.slice a5 n5 c5) := by simp [go_sem, g1]
  have S5 : Hid (RNat (w5.setCell ⟨g + 1, 0, none⟩ (.slice a5 n5 c5)) (.agg #[.slice a1 n1 c1]) m ∧ RNat (w5.setCell ⟨g + 1, 0, none⟩ (.slice a5 n5 c5)) (.agg #[.slice a5 n5 c5]) (2 ^ d) ∧ Below w.heap.size w (w5.setCell ⟨g + 1, 0, none⟩ (.slice a5 n5 c5))) := ⟨S4.out.1.setCell (no_int_slice g1) _, S4.out.2.1.setCell (no_int_slice g1) _, S4.out.2.2.setCell (by have := HL.out; show _ ≤ g + 1; omega) _⟩
  have C5 : Hid ((w5.setCell ⟨g + 1, 0, none⟩ (.slice a5 n5 c5)).cell? ⟨w.heap.size, 0, none⟩ = some (.slice none 0 0) ∧ (w5.setCell ⟨g + 1, 0, none⟩ (.slice a5 n5 c5)).cell? ⟨w.heap.size, 1, none⟩ = some (.slice none 0 0) ∧ (w5.setCell ⟨g + 1, 0, none⟩ (.slice a5 n5 c5)).frozen? ⟨w.heap.size, 0, none⟩ = false ∧ (w5.setCell ⟨g + 1, 0, none⟩ (.slice a5 n5 c5)).frozen? ⟨w.heap.size, 1, none⟩ = false) := by
    refine ⟨?_, ?_, ?_, ?_⟩
    · rw [World.cell?_setCell_far _ _ _ _ (Ne.symm ne1)]; exact x0'
    · rw [World.cell?_setCell_far _ _ _ _ (Ne.symm ne1)]; exact x1'
    · rw [World.frozen?_setCell]; exact FZ.out.1
    · rw [World.frozen?_setCell]; exact FZ.out.2
  clear x0' x1' S4 g0 ne1 hW
  go_wp2_with fail
  refine (rfrom2_yes _ _ m (2 ^ d) _ S5.out.1 S5.out.2.1 HG.out.some1 HG.out.some2 (Nat.two_pow_pos _)).mono ?_
  rintro e w6 ⟨v6, rfl, hv6, hb6⟩
  have hv' := hv6
  obtain ⟨a6, n6, c6, a7, n7, c7, ev, _, _⟩ := hv'
  subst ev
  have z0 := cell_later hb6 C5.out.1
  have z1 := cell_later hb6 C5.out.2.1
  have y0 := (hb6.frozen (World.block_lt_of_cell? _ _ C5.out.1)).trans C5.out.2.2.1
  have y1 := (hb6.frozen (World.block_lt_of_cell? _ _ C5.out.2.1)).trans C5.out.2.2.2
  have Z : Hid _ := rrat_put (w0 := w) (v := .slice a6 n6 c6) (u := .slice a7 n7 c7) z0 z1 hv6 (bel_go S5.out.2.2 hb6) (Nat.le_refl _)
  clear hv6 hb6 S5 C5 k0 k1 g1 g2
  go_wp2_with fail
  exact bodyPost_ret (v := .tuple #[.agg #[.slice a6 n6 c6, .slice a7 n7 c7], .bool true]) (by simp [results, Tryz.results21, go_sem, z0, z1]) rfl ⟨_, rfl, Z.out.1, Z.out.2⟩
set_option maxHeartbeats 4000000 in
theorem rrate_good2 (u x0 E m t s d : Nat) (w : World) (h : Rl u x0 E m t s) (ht : t = 1) (hs : s = 0) (he : E = 0) (hd : d = 1074) (hg : Rg u m d) : Calls Tryz.prog 21 #[.int .u64 (u : Int)] w (MakesRRB w (fN (nz u) / Nat.gcd (fN (nz u)) (fD (nz u))) (fD (nz u) / Nat.gcd (fN (nz u)) (fD (nz u))) true) := by
  have RR : Hid (Rr u x0 E m t s) := h.rules
  have HG : Hid (Rg u m d) := hg
  rw [hg.eN, hg.eD]
  have LF : Hid (∀ v w, RNat w v 1 → Calls Tryz.prog 49 #[v, .int .i64 1074] w (RMakes w (2 ^ d))) := fun v w h => by
    have := rleft_any v 1 d w h (rs_word (by omega)).rfits (by have := hg.dle; omega)
    rw [Nat.one_mul] at this
    rw [show (d : Int) = 1074 by omega] at this
    exact this
  have d1 : decide (E = 2047) = false := decide_eq_false (by omega)
  have d1' : ((E : Int) == 2047) = false := by simp; omega
  have d12 : ¬ E = 2047 := by omega
  have d2 : decide (t = 1) = true := decide_eq_true ht
  have d2' : ((t : Int) == 1) = true := by simp; omega
  have d3 : ((s : Int) != 0) = false := by simp; omega
  have d3' : decide (s = 0) = true := decide_eq_true hs
  have d3'' : ((s : Int) == 0) = true := by simp; omega
  have d3b : s = 0 := hs
  have d4 : decide (1043 < E) = false := decide_eq_false (by omega)
  have d4' : decide ((1043 : Int) < (E : Int)) = false := decide_eq_false (by omega)
  have d5 : decide (E = 1043) = false := decide_eq_false (by omega)
  have d5' : ((E : Int) == 1043) = false := by simp; omega
  have d52 : ¬ E = 1043 := by omega
  have d8 : decide (E = 0) = true := decide_eq_true he
  have d8' : ((E : Int) == 0) = true := by simp; omega
  clear ht hs he hd
  clear h hg
  obtain ⟨r2, r3, r5, r6, r7, r8, r9, r10⟩ := RR.out
  clear r10
  have S1 : Hid _ := (sx_start w).box (.slice none 0 0) (.slice none 0 0) 35 _ rfl
  have f6 : (w.alloc (.cells #[.slice none 0 0, .slice none 0 0] 35)).frozen? ⟨w.heap.size, 0, none⟩ = false := by simp [go_sem]
  have f7 : (w.alloc (.cells #[.slice none 0 0, .slice none 0 0] 35)).frozen? ⟨w.heap.size, 1, none⟩ = false := by simp [go_sem]
  have FZ : Hid _ := And.intro f6 f7
  clear f6 f7
  go_enter Tryz.func21, Tryz.ntmps21
  go_wp2_with fail
  refine (rof_any m _ (by have := HG.out.mlt; omega)).mono ?_
  rintro e w2 ⟨v2, rfl, hv2, hb2⟩
  obtain ⟨a1, n1, c1, rfl⟩ := hv2.isAgg
  have FZ : Hid (w2.frozen? ⟨w.heap.size, 0, none⟩ = false ∧ w2.frozen? ⟨w.heap.size, 1, none⟩ = false) := ⟨(hb2.frozen (World.block_lt_of_cell? _ _ (S1.out.cel w.heap.size 0 (.slice none 0 0)))).trans FZ.out.1, (hb2.frozen (World.block_lt_of_cell? _ _ (S1.out.cel w.heap.size 1 (.slice none 0 0)))).trans FZ.out.2⟩
  have S2 : Hid _ := (S1.out.go hb2).addM hv2
  clear hv2 hb2 S1
  go_wp2_with fail
  refine (rof_any 1 _ (by omega)).mono ?_
  rintro e w3 ⟨v3, rfl, hv3, hb3⟩
  obtain ⟨a2, n2, c2, rfl⟩ := hv3.isAgg
  have hbb := bel_go hb3 (bel_al (o := .cells #[.slice a2 n2 c2] 33) (bel_al (o := .cells #[.slice a1 n1 c1] 33) (bel_refl _)))
  have FZ : Hid (((w3.alloc (.cells #[.slice a1 n1 c1] 33)).alloc (.cells #[.slice a2 n2 c2] 33)).frozen? ⟨w.heap.size, 0, none⟩ = false ∧ ((w3.alloc (.cells #[.slice a1 n1 c1] 33)).alloc (.cells #[.slice a2 n2 c2] 33)).frozen? ⟨w.heap.size, 1, none⟩ = false) := ⟨(hbb.frozen (World.block_lt_of_cell? _ _ (S2.out.cel w.heap.size 0 (.slice none 0 0)))).trans FZ.out.1, (hbb.frozen (World.block_lt_of_cell? _ _ (S2.out.cel w.heap.size 1 (.slice none 0 0)))).trans FZ.out.2⟩
  have S3 : Hid _ := ((((S2.out.go hb3).addM hv3).box1 (.slice a1 n1 c1) 33 _ rfl).box1 (.slice a2 n2 c2) 33 _ rfl)
  simp only [World.size_alloc] at S3
  have ff : ((w3.alloc (.cells #[.slice a1 n1 c1] 33)).alloc (.cells #[.slice a2 n2 c2] 33)).frozen? ⟨w3.heap.size + 1, 0, none⟩ = false := by simp [go_sem]
  have HL : Hid (w.heap.size < w3.heap.size ∧ w.heap.size ≤ w3.heap.size) := by
    have := World.block_lt_of_cell? _ _ (cell_later hb3 (S2.out.cel w.heap.size 0 (.slice none 0 0)))
    exact ⟨this, Nat.le_of_lt this⟩
  clear hv3 hb3 hbb S2
  go_wp2_with fail
  obtain ⟨w4, hw4⟩ : ∃ w4, w4 = (w3.alloc (.cells #[.slice a1 n1 c1] 33)).alloc (.cells #[.slice a2 n2 c2] 33) := ⟨_, rfl⟩
  obtain ⟨g, hg⟩ : ∃ g, g = w3.heap.size := ⟨_, rfl⟩
  rw [← hw4, ← hg] at S3 ff
  rw [← hw4] at FZ
  rw [← hg] at HL
  rw [← hw4, ← hg]
  clear hw4 hg
  refine (LF.out _ _ (S3.out.rat (.agg #[.slice a2 n2 c2]) 1)).mono ?_
  rintro e w5 ⟨v5, rfl, hv5, hb5⟩
  obtain ⟨a5, n5, c5, rfl⟩ := hv5.isAgg
  have g0 := cell_later hb5 (S3.out.cel g 0 (.slice a1 n1 c1))
  have g1 := cell_later hb5 (S3.out.cel (g + 1) 0 (.slice a2 n2 c2))
  have g2 : w5.frozen? ⟨g + 1, 0, none⟩ = false := (hb5.frozen (World.block_lt_of_cell? _ _ (S3.out.cel (g + 1) 0 (.slice a2 n2 c2)))).trans ff
  have x0' := cell_later hb5 (S3.out.cel w.heap.size 0 (.slice none 0 0))
  have x1' := cell_later hb5 (S3.out.cel w.heap.size 1 (.slice none 0 0))
  have FZ : Hid (w5.frozen? ⟨w.heap.size, 0, none⟩ = false ∧ w5.frozen? ⟨w.heap.size, 1, none⟩ = false) := ⟨(hb5.frozen (World.block_lt_of_cell? _ _ (S3.out.cel w.heap.size 0 (.slice none 0 0)))).trans FZ.out.1, (hb5.frozen (World.block_lt_of_cell? _ _ (S3.out.cel w.heap.size 1 (.slice none 0 0)))).trans FZ.out.2⟩
  have S4 : Hid (RNat w5 (.agg #[.slice a1 n1 c1]) m ∧ RNat w5 (.agg #[.slice a5 n5 c5]) (2 ^ d) ∧ Below w.heap.size w w5) := ⟨(S3.out.rat (.agg #[.slice a1 n1 c1]) m).mono hb5, hv5, bel_go S3.out.bel hb5⟩
  clear hv5 hb5 S3 ff
  obtain ⟨W, hW⟩ : ∃ W, W = w5.setCell ⟨g + 1, 0, none⟩ (.slice a5 n5 c5) := ⟨_, rfl⟩
  have ne1 : w.heap.size ≠ g + 1 := by have := HL.out; omega
  have k0 : (w5.setCell ⟨g + 1, 0, none⟩ (.slice a5 n5 c5)).cell? ⟨g, 0, none⟩ = some (.slice a1 n1 c1) := by rw [World.cell?_setCell_far _ _ _ _ (by show g + 1 ≠ g; omega)]; exact g0
  have k1 : (w5.setCell ⟨g + 1, 0, none⟩ (.slice a5 n5 c5)).cell? ⟨g + 1, 0, none⟩ = some (.slice a5 n5 c5) := by simp [go_sem, g1]
  have S5 : Hid (RNat (w5.setCell ⟨g + 1, 0, none⟩ (.slice a5 n5 c5)) (.agg #[.slice a1 n1 c1]) m ∧ RNat (w5.setCell ⟨g + 1, 0, none⟩ (.slice a5 n5 c5)) (.agg #[.slice a5 n5 c5]) (2 ^ d) ∧ Below w.heap.size w (w5.setCell ⟨g + 1, 0, none⟩ (.slice a5 n5 c5))) := ⟨S4.out.1.setCell (no_int_slice g1) _, S4.out.2.1.setCell (no_int_slice g1) _, S4.out.2.2.setCell (by have := HL.out; show _ ≤ g + 1; omega) _⟩
  have C5 : Hid ((w5.setCell ⟨g + 1, 0, none⟩ (.slice a5 n5 c5)).cell? ⟨w.heap.size, 0, none⟩ = some (.slice none 0 0) ∧ (w5.setCell ⟨g + 1, 0, none⟩ (.slice a5 n5 c5)).cell? ⟨w.heap.size, 1, none⟩ = some (.slice none 0 0) ∧ (w5.setCell ⟨g + 1, 0, none⟩ (.slice a5 n5 c5)).frozen? ⟨w.heap.size, 0, none⟩ = false ∧ (w5.setCell ⟨g + 1, 0, none⟩ (.slice a5 n5 c5)).frozen? ⟨w.heap.size, 1, none⟩ = false) := by
    refine ⟨?_, ?_, ?_, ?_⟩
    · rw [World.cell?_setCell_far _ _ _ _ (Ne.symm ne1)]; exact x0'
    · rw [World.cell?_setCell_far _ _ _ _ (Ne.symm ne1)]; exact x1'
    · rw [World.frozen?_setCell]; exact FZ.out.1
    · rw [World.frozen?_setCell]; exact FZ.out.2
  clear x0' x1' S4 g0 ne1 hW
  go_wp2_with fail
  refine (rfrom2_yes _ _ m (2 ^ d) _ S5.out.1 S5.out.2.1 HG.out.some1 HG.out.some2 (Nat.two_pow_pos _)).mono ?_
  rintro e w6 ⟨v6, rfl, hv6, hb6⟩
  have hv' := hv6
  obtain ⟨a6, n6, c6, a7, n7, c7, ev, _, _⟩ := hv'
  subst ev
  have z0 := cell_later hb6 C5.out.1
  have z1 := cell_later hb6 C5.out.2.1
  have y0 := (hb6.frozen (World.block_lt_of_cell? _ _ C5.out.1)).trans C5.out.2.2.1
  have y1 := (hb6.frozen (World.block_lt_of_cell? _ _ C5.out.2.1)).trans C5.out.2.2.2
  have Z : Hid _ := rrat_put (w0 := w) (v := .slice a6 n6 c6) (u := .slice a7 n7 c7) z0 z1 hv6 (bel_go S5.out.2.2 hb6) (Nat.le_refl _)
  clear hv6 hb6 S5 C5 k0 k1 g1 g2
  go_wp2_with fail
  exact bodyPost_ret (v := .tuple #[.agg #[.slice a6 n6 c6, .slice a7 n7 c7], .bool true]) (by simp [results, Tryz.results21, go_sem, z0, z1]) rfl ⟨_, rfl, Z.out.1, Z.out.2⟩
set_option maxHeartbeats 4000000 in
theorem rrate_good3 (u x0 E m t s mm d : Nat) (w : World) (h : Rl u x0 E m t s) (ht : t ≠ 1) (he : 0 < E) (hE : E < 1043) (hmm : mm = m + 4503599627370496) (hd : d = 1075 - E) (hg : Rg u mm d) : Calls Tryz.prog 21 #[.int .u64 (u : Int)] w (MakesRRB w (fN (nz u) / Nat.gcd (fN (nz u)) (fD (nz u))) (fD (nz u) / Nat.gcd (fN (nz u)) (fD (nz u))) true) := by
  have RR : Hid (Rr u x0 E m t s) := h.rules
  have HG : Hid (Rg u mm d) := hg
  rw [hg.eN, hg.eD]
  have LF : Hid (∀ v w, RNat w v 1 → Calls Tryz.prog 49 #[v, .int .i64 (d : Int)] w (RMakes w (2 ^ d))) := fun v w h => by
    have := rleft_any v 1 d w h (rs_word (by omega)).rfits (by have := hg.dle; omega)
    rw [Nat.one_mul] at this
    exact this
  have d1 : decide (E = 2047) = false := decide_eq_false (by omega)
  have d1' : ((E : Int) == 2047) = false := by simp; omega
  have d12 : ¬ E = 2047 := by omega
  have d2 : decide (t = 1) = false := decide_eq_false (by omega)
  have d2' : ((t : Int) == 1) = false := by simp; omega
  have d22 : ¬ t = 1 := by omega
  have d4 : decide (1043 < E) = false := decide_eq_false (by omega)
  have d4' : decide ((1043 : Int) < (E : Int)) = false := decide_eq_false (by omega)
  have d5 : decide (E = 1043) = false := decide_eq_false (by omega)
  have d5' : ((E : Int) == 1043) = false := by simp; omega
  have d52 : ¬ E = 1043 := by omega
  have d8 : decide (E = 0) = false := decide_eq_false (by omega)
  have d8' : ((E : Int) == 0) = false := by simp; omega
  have d82 : ¬ E = 0 := by omega
  have d9 : decide (1075 ≤ E) = false := decide_eq_false (by omega)
  have d9' : decide ((1075 : Int) ≤ (E : Int)) = false := decide_eq_false (by omega)
  have emm : ((m + 4503599627370496 : Nat) : Int) = (mm : Int) := by omega
  have r11 : wrap64 (1075 - (E : Int)) = (d : Int) := by rw [IntWalk.wrap64_in _ ⟨by omega, by omega⟩]; omega
  clear ht he hE hmm hd
  clear h hg
  obtain ⟨r2, r3, r5, r6, r7, r8, r9, r10⟩ := RR.out
  rw [emm] at r10
  clear emm
  have S1 : Hid _ := (sx_start w).box (.slice none 0 0) (.slice none 0 0) 35 _ rfl
  have f6 : (w.alloc (.cells #[.slice none 0 0, .slice none 0 0] 35)).frozen? ⟨w.heap.size, 0, none⟩ = false := by simp [go_sem]
  have f7 : (w.alloc (.cells #[.slice none 0 0, .slice none 0 0] 35)).frozen? ⟨w.heap.size, 1, none⟩ = false := by simp [go_sem]
  have FZ : Hid _ := And.intro f6 f7
  clear f6 f7
  go_enter Tryz.func21, Tryz.ntmps21
  go_wp2_with fail
  refine (rof_any mm _ (by have := HG.out.mlt; omega)).mono ?_
  rintro e w2 ⟨v2, rfl, hv2, hb2⟩
  obtain ⟨a1, n1, c1, rfl⟩ := hv2.isAgg
  have FZ : Hid (w2.frozen? ⟨w.heap.size, 0, none⟩ = false ∧ w2.frozen? ⟨w.heap.size, 1, none⟩ = false) := ⟨(hb2.frozen (World.block_lt_of_cell? _ _ (S1.out.cel w.heap.size 0 (.slice none 0 0)))).trans FZ.out.1, (hb2.frozen (World.block_lt_of_cell? _ _ (S1.out.cel w.heap.size 1 (.slice none 0 0)))).trans FZ.out.2⟩
  have S2 : Hid _ := (S1.out.go hb2).addM hv2
  clear hv2 hb2 S1
  go_wp2_with fail
  refine (rof_any 1 _ (by omega)).mono ?_
  rintro e w3 ⟨v3, rfl, hv3, hb3⟩
  obtain ⟨a2, n2, c2, rfl⟩ := hv3.isAgg
  have hbb := bel_go hb3 (bel_al (o := .cells #[.slice a2 n2 c2] 33) (bel_al (o := .cells #[.slice a1 n1 c1] 33) (bel_refl _)))
  have FZ : Hid (((w3.alloc (.cells #[.slice a1 n1 c1] 33)).alloc (.cells #[.slice a2 n2 c2] 33)).frozen? ⟨w.heap.size, 0, none⟩ = false ∧ ((w3.alloc (.cells #[.slice a1 n1 c1] 33)).alloc (.cells #[.slice a2 n2 c2] 33)).frozen? ⟨w.heap.size, 1, none⟩ = false) := ⟨(hbb.frozen (World.block_lt_of_cell? _ _ (S2.out.cel w.heap.size 0 (.slice none 0 0)))).trans FZ.out.1, (hbb.frozen (World.block_lt_of_cell? _ _ (S2.out.cel w.heap.size 1 (.slice none 0 0)))).trans FZ.out.2⟩
  have S3 : Hid _ := ((((S2.out.go hb3).addM hv3).box1 (.slice a1 n1 c1) 33 _ rfl).box1 (.slice a2 n2 c2) 33 _ rfl)
  simp only [World.size_alloc] at S3
  have ff : ((w3.alloc (.cells #[.slice a1 n1 c1] 33)).alloc (.cells #[.slice a2 n2 c2] 33)).frozen? ⟨w3.heap.size + 1, 0, none⟩ = false := by simp [go_sem]
  have HL : Hid (w.heap.size < w3.heap.size ∧ w.heap.size ≤ w3.heap.size) := by
    have := World.block_lt_of_cell? _ _ (cell_later hb3 (S2.out.cel w.heap.size 0 (.slice none 0 0)))
    exact ⟨this, Nat.le_of_lt this⟩
  clear hv3 hb3 hbb S2
  go_wp2_with fail
  obtain ⟨w4, hw4⟩ : ∃ w4, w4 = (w3.alloc (.cells #[.slice a1 n1 c1] 33)).alloc (.cells #[.slice a2 n2 c2] 33) := ⟨_, rfl⟩
  obtain ⟨g, hg⟩ : ∃ g, g = w3.heap.size := ⟨_, rfl⟩
  rw [← hw4, ← hg] at S3 ff
  rw [← hw4] at FZ
  rw [← hg] at HL
  rw [← hw4, ← hg]
  clear hw4 hg
  refine (LF.out _ _ (S3.out.rat (.agg #[.slice a2 n2 c2]) 1)).mono ?_
  rintro e w5 ⟨v5, rfl, hv5, hb5⟩
  obtain ⟨a5, n5, c5, rfl⟩ := hv5.isAgg
  have g0 := cell_later hb5 (S3.out.cel g 0 (.slice a1 n1 c1))
  have g1 := cell_later hb5 (S3.out.cel (g + 1) 0 (.slice a2 n2 c2))
  have g2 : w5.frozen? ⟨g + 1, 0, none⟩ = false := (hb5.frozen (World.block_lt_of_cell? _ _ (S3.out.cel (g + 1) 0 (.slice a2 n2 c2)))).trans ff
  have x0' := cell_later hb5 (S3.out.cel w.heap.size 0 (.slice none 0 0))
  have x1' := cell_later hb5 (S3.out.cel w.heap.size 1 (.slice none 0 0))
  have FZ : Hid (w5.frozen? ⟨w.heap.size, 0, none⟩ = false ∧ w5.frozen? ⟨w.heap.size, 1, none⟩ = false) := ⟨(hb5.frozen (World.block_lt_of_cell? _ _ (S3.out.cel w.heap.size 0 (.slice none 0 0)))).trans FZ.out.1, (hb5.frozen (World.block_lt_of_cell? _ _ (S3.out.cel w.heap.size 1 (.slice none 0 0)))).trans FZ.out.2⟩
  have S4 : Hid (RNat w5 (.agg #[.slice a1 n1 c1]) mm ∧ RNat w5 (.agg #[.slice a5 n5 c5]) (2 ^ d) ∧ Below w.heap.size w w5) := ⟨(S3.out.rat (.agg #[.slice a1 n1 c1]) mm).mono hb5, hv5, bel_go S3.out.bel hb5⟩
  clear hv5 hb5 S3 ff
  obtain ⟨W, hW⟩ : ∃ W, W = w5.setCell ⟨g + 1, 0, none⟩ (.slice a5 n5 c5) := ⟨_, rfl⟩
  have ne1 : w.heap.size ≠ g + 1 := by have := HL.out; omega
  have k0 : (w5.setCell ⟨g + 1, 0, none⟩ (.slice a5 n5 c5)).cell? ⟨g, 0, none⟩ = some (.slice a1 n1 c1) := by rw [World.cell?_setCell_far _ _ _ _ (by show g + 1 ≠ g; omega)]; exact g0
  have k1 : (w5.setCell ⟨g + 1, 0, none⟩ (.slice a5 n5 c5)).cell? ⟨g + 1, 0, none⟩ = some (.slice a5 n5 c5) := by simp [go_sem, g1]
  have S5 : Hid (RNat (w5.setCell ⟨g + 1, 0, none⟩ (.slice a5 n5 c5)) (.agg #[.slice a1 n1 c1]) mm ∧ RNat (w5.setCell ⟨g + 1, 0, none⟩ (.slice a5 n5 c5)) (.agg #[.slice a5 n5 c5]) (2 ^ d) ∧ Below w.heap.size w (w5.setCell ⟨g + 1, 0, none⟩ (.slice a5 n5 c5))) := ⟨S4.out.1.setCell (no_int_slice g1) _, S4.out.2.1.setCell (no_int_slice g1) _, S4.out.2.2.setCell (by have := HL.out; show _ ≤ g + 1; omega) _⟩
  have C5 : Hid ((w5.setCell ⟨g + 1, 0, none⟩ (.slice a5 n5 c5)).cell? ⟨w.heap.size, 0, none⟩ = some (.slice none 0 0) ∧ (w5.setCell ⟨g + 1, 0, none⟩ (.slice a5 n5 c5)).cell? ⟨w.heap.size, 1, none⟩ = some (.slice none 0 0) ∧ (w5.setCell ⟨g + 1, 0, none⟩ (.slice a5 n5 c5)).frozen? ⟨w.heap.size, 0, none⟩ = false ∧ (w5.setCell ⟨g + 1, 0, none⟩ (.slice a5 n5 c5)).frozen? ⟨w.heap.size, 1, none⟩ = false) := by
    refine ⟨?_, ?_, ?_, ?_⟩
    · rw [World.cell?_setCell_far _ _ _ _ (Ne.symm ne1)]; exact x0'
    · rw [World.cell?_setCell_far _ _ _ _ (Ne.symm ne1)]; exact x1'
    · rw [World.frozen?_setCell]; exact FZ.out.1
    · rw [World.frozen?_setCell]; exact FZ.out.2
  clear x0' x1' S4 g0 ne1 hW
  go_wp2_with fail
  refine (rfrom2_yes _ _ mm (2 ^ d) _ S5.out.1 S5.out.2.1 HG.out.some1 HG.out.some2 (Nat.two_pow_pos _)).mono ?_
  rintro e w6 ⟨v6, rfl, hv6, hb6⟩
  have hv' := hv6
  obtain ⟨a6, n6, c6, a7, n7, c7, ev, _, _⟩ := hv'
  subst ev
  have z0 := cell_later hb6 C5.out.1
  have z1 := cell_later hb6 C5.out.2.1
  have y0 := (hb6.frozen (World.block_lt_of_cell? _ _ C5.out.1)).trans C5.out.2.2.1
  have y1 := (hb6.frozen (World.block_lt_of_cell? _ _ C5.out.2.1)).trans C5.out.2.2.2
  have Z : Hid _ := rrat_put (w0 := w) (v := .slice a6 n6 c6) (u := .slice a7 n7 c7) z0 z1 hv6 (bel_go S5.out.2.2 hb6) (Nat.le_refl _)
  clear hv6 hb6 S5 C5 k0 k1 g1 g2
  go_wp2_with fail
  exact bodyPost_ret (v := .tuple #[.agg #[.slice a6 n6 c6, .slice a7 n7 c7], .bool true]) (by simp [results, Tryz.results21, go_sem, z0, z1]) rfl ⟨_, rfl, Z.out.1, Z.out.2⟩
set_option maxHeartbeats 4000000 in
theorem rrate_good4 (u x0 E m t s mm d : Nat) (w : World) (h : Rl u x0 E m t s) (ht : t ≠ 1) (hE : E = 1043) (hm : m = 0) (hmm : mm = m + 4503599627370496) (hd : d = 1075 - E) (hg : Rg u mm d) : Calls Tryz.prog 21 #[.int .u64 (u : Int)] w (MakesRRB w (fN (nz u) / Nat.gcd (fN (nz u)) (fD (nz u))) (fD (nz u) / Nat.gcd (fN (nz u)) (fD (nz u))) true) := by
  have RR : Hid (Rr u x0 E m t s) := h.rules
  have HG : Hid (Rg u mm d) := hg
  rw [hg.eN, hg.eD]
  have LF : Hid (∀ v w, RNat w v 1 → Calls Tryz.prog 49 #[v, .int .i64 (d : Int)] w (RMakes w (2 ^ d))) := fun v w h => by
    have := rleft_any v 1 d w h (rs_word (by omega)).rfits (by have := hg.dle; omega)
    rw [Nat.one_mul] at this
    exact this
  have d1 : decide (E = 2047) = false := decide_eq_false (by omega)
  have d1' : ((E : Int) == 2047) = false := by simp; omega
  have d12 : ¬ E = 2047 := by omega
  have d2 : decide (t = 1) = false := decide_eq_false (by omega)
  have d2' : ((t : Int) == 1) = false := by simp; omega
  have d22 : ¬ t = 1 := by omega
  have d4 : decide (1043 < E) = false := decide_eq_false (by omega)
  have d4' : decide ((1043 : Int) < (E : Int)) = false := decide_eq_false (by omega)
  have d5 : decide (E = 1043) = true := decide_eq_true hE
  have d5' : ((E : Int) == 1043) = true := by simp; omega
  have d6 : decide (0 < m) = false := decide_eq_false (by omega)
  have d6' : decide ((0 : Int) < (m : Int)) = false := decide_eq_false (by omega)
  have d8 : decide (E = 0) = false := decide_eq_false (by omega)
  have d8' : ((E : Int) == 0) = false := by simp; omega
  have d82 : ¬ E = 0 := by omega
  have d9 : decide (1075 ≤ E) = false := decide_eq_false (by omega)
  have d9' : decide ((1075 : Int) ≤ (E : Int)) = false := decide_eq_false (by omega)
  have emm : ((m + 4503599627370496 : Nat) : Int) = (mm : Int) := by omega
  have r11 : wrap64 (1075 - (E : Int)) = (d : Int) := by rw [IntWalk.wrap64_in _ ⟨by omega, by omega⟩]; omega
  clear ht hE hm hmm hd
  clear h hg
  obtain ⟨r2, r3, r5, r6, r7, r8, r9, r10⟩ := RR.out
  rw [emm] at r10
  clear emm
  have S1 : Hid _ := (sx_start w).box (.slice none 0 0) (.slice none 0 0) 35 _ rfl
  have f6 : (w.alloc (.cells #[.slice none 0 0, .slice none 0 0] 35)).frozen? ⟨w.heap.size, 0, none⟩ = false := by simp [go_sem]
  have f7 : (w.alloc (.cells #[.slice none 0 0, .slice none 0 0] 35)).frozen? ⟨w.heap.size, 1, none⟩ = false := by simp [go_sem]
  have FZ : Hid _ := And.intro f6 f7
  clear f6 f7
  go_enter Tryz.func21, Tryz.ntmps21
  go_wp2_with fail
  refine (rof_any mm _ (by have := HG.out.mlt; omega)).mono ?_
  rintro e w2 ⟨v2, rfl, hv2, hb2⟩
  obtain ⟨a1, n1, c1, rfl⟩ := hv2.isAgg
  have FZ : Hid (w2.frozen? ⟨w.heap.size, 0, none⟩ = false ∧ w2.frozen? ⟨w.heap.size, 1, none⟩ = false) := ⟨(hb2.frozen (World.block_lt_of_cell? _ _ (S1.out.cel w.heap.size 0 (.slice none 0 0)))).trans FZ.out.1, (hb2.frozen (World.block_lt_of_cell? _ _ (S1.out.cel w.heap.size 1 (.slice none 0 0)))).trans FZ.out.2⟩
  have S2 : Hid _ := (S1.out.go hb2).addM hv2
  clear hv2 hb2 S1
  go_wp2_with fail
  refine (rof_any 1 _ (by omega)).mono ?_
  rintro e w3 ⟨v3, rfl, hv3, hb3⟩
  obtain ⟨a2, n2, c2, rfl⟩ := hv3.isAgg
  have hbb := bel_go hb3 (bel_al (o := .cells #[.slice a2 n2 c2] 33) (bel_al (o := .cells #[.slice a1 n1 c1] 33) (bel_refl _)))
  have FZ : Hid (((w3.alloc (.cells #[.slice a1 n1 c1] 33)).alloc (.cells #[.slice a2 n2 c2] 33)).frozen? ⟨w.heap.size, 0, none⟩ = false ∧ ((w3.alloc (.cells #[.slice a1 n1 c1] 33)).alloc (.cells #[.slice a2 n2 c2] 33)).frozen? ⟨w.heap.size, 1, none⟩ = false) := ⟨(hbb.frozen (World.block_lt_of_cell? _ _ (S2.out.cel w.heap.size 0 (.slice none 0 0)))).trans FZ.out.1, (hbb.frozen (World.block_lt_of_cell? _ _ (S2.out.cel w.heap.size 1 (.slice none 0 0)))).trans FZ.out.2⟩
  have S3 : Hid _ := ((((S2.out.go hb3).addM hv3).box1 (.slice a1 n1 c1) 33 _ rfl).box1 (.slice a2 n2 c2) 33 _ rfl)
  simp only [World.size_alloc] at S3
  have ff : ((w3.alloc (.cells #[.slice a1 n1 c1] 33)).alloc (.cells #[.slice a2 n2 c2] 33)).frozen? ⟨w3.heap.size + 1, 0, none⟩ = false := by simp [go_sem]
  have HL : Hid (w.heap.size < w3.heap.size ∧ w.heap.size ≤ w3.heap.size) := by
    have := World.block_lt_of_cell? _ _ (cell_later hb3 (S2.out.cel w.heap.size 0 (.slice none 0 0)))
    exact ⟨this, Nat.le_of_lt this⟩
  clear hv3 hb3 hbb S2
  go_wp2_with fail
  obtain ⟨w4, hw4⟩ : ∃ w4, w4 = (w3.alloc (.cells #[.slice a1 n1 c1] 33)).alloc (.cells #[.slice a2 n2 c2] 33) := ⟨_, rfl⟩
  obtain ⟨g, hg⟩ : ∃ g, g = w3.heap.size := ⟨_, rfl⟩
  rw [← hw4, ← hg] at S3 ff
  rw [← hw4] at FZ
  rw [← hg] at HL
  rw [← hw4, ← hg]
  clear hw4 hg
  refine (LF.out _ _ (S3.out.rat (.agg #[.slice a2 n2 c2]) 1)).mono ?_
  rintro e w5 ⟨v5, rfl, hv5, hb5⟩
  obtain ⟨a5, n5, c5, rfl⟩ := hv5.isAgg
  have g0 := cell_later hb5 (S3.out.cel g 0 (.slice a1 n1 c1))
  have g1 := cell_later hb5 (S3.out.cel (g + 1) 0 (.slice a2 n2 c2))
  have g2 : w5.frozen? ⟨g + 1, 0, none⟩ = false := (hb5.frozen (World.block_lt_of_cell? _ _ (S3.out.cel (g + 1) 0 (.slice a2 n2 c2)))).trans ff
  have x0' := cell_later hb5 (S3.out.cel w.heap.size 0 (.slice none 0 0))
  have x1' := cell_later hb5 (S3.out.cel w.heap.size 1 (.slice none 0 0))
  have FZ : Hid (w5.frozen? ⟨w.heap.size, 0, none⟩ = false ∧ w5.frozen? ⟨w.heap.size, 1, none⟩ = false) := ⟨(hb5.frozen (World.block_lt_of_cell? _ _ (S3.out.cel w.heap.size 0 (.slice none 0 0)))).trans FZ.out.1, (hb5.frozen (World.block_lt_of_cell? _ _ (S3.out.cel w.heap.size 1 (.slice none 0 0)))).trans FZ.out.2⟩
  have S4 : Hid (RNat w5 (.agg #[.slice a1 n1 c1]) mm ∧ RNat w5 (.agg #[.slice a5 n5 c5]) (2 ^ d) ∧ Below w.heap.size w w5) := ⟨(S3.out.rat (.agg #[.slice a1 n1 c1]) mm).mono hb5, hv5, bel_go S3.out.bel hb5⟩
  clear hv5 hb5 S3 ff
  obtain ⟨W, hW⟩ : ∃ W, W = w5.setCell ⟨g + 1, 0, none⟩ (.slice a5 n5 c5) := ⟨_, rfl⟩
  have ne1 : w.heap.size ≠ g + 1 := by have := HL.out; omega
  have k0 : (w5.setCell ⟨g + 1, 0, none⟩ (.slice a5 n5 c5)).cell? ⟨g, 0, none⟩ = some (.slice a1 n1 c1) := by rw [World.cell?_setCell_far _ _ _ _ (by show g + 1 ≠ g; omega)]; exact g0
  have k1 : (w5.setCell ⟨g + 1, 0, none⟩ (.slice a5 n5 c5)).cell? ⟨g + 1, 0, none⟩ = some (.slice a5 n5 c5) := by simp [go_sem, g1]
  have S5 : Hid (RNat (w5.setCell ⟨g + 1, 0, none⟩ (.slice a5 n5 c5)) (.agg #[.slice a1 n1 c1]) mm ∧ RNat (w5.setCell ⟨g + 1, 0, none⟩ (.slice a5 n5 c5)) (.agg #[.slice a5 n5 c5]) (2 ^ d) ∧ Below w.heap.size w (w5.setCell ⟨g + 1, 0, none⟩ (.slice a5 n5 c5))) := ⟨S4.out.1.setCell (no_int_slice g1) _, S4.out.2.1.setCell (no_int_slice g1) _, S4.out.2.2.setCell (by have := HL.out; show _ ≤ g + 1; omega) _⟩
  have C5 : Hid ((w5.setCell ⟨g + 1, 0, none⟩ (.slice a5 n5 c5)).cell? ⟨w.heap.size, 0, none⟩ = some (.slice none 0 0) ∧ (w5.setCell ⟨g + 1, 0, none⟩ (.slice a5 n5 c5)).cell? ⟨w.heap.size, 1, none⟩ = some (.slice none 0 0) ∧ (w5.setCell ⟨g + 1, 0, none⟩ (.slice a5 n5 c5)).frozen? ⟨w.heap.size, 0, none⟩ = false ∧ (w5.setCell ⟨g + 1, 0, none⟩ (.slice a5 n5 c5)).frozen? ⟨w.heap.size, 1, none⟩ = false) := by
    refine ⟨?_, ?_, ?_, ?_⟩
    · rw [World.cell?_setCell_far _ _ _ _ (Ne.symm ne1)]; exact x0'
    · rw [World.cell?_setCell_far _ _ _ _ (Ne.symm ne1)]; exact x1'
    · rw [World.frozen?_setCell]; exact FZ.out.1
    · rw [World.frozen?_setCell]; exact FZ.out.2
  clear x0' x1' S4 g0 ne1 hW
  go_wp2_with fail
  refine (rfrom2_yes _ _ mm (2 ^ d) _ S5.out.1 S5.out.2.1 HG.out.some1 HG.out.some2 (Nat.two_pow_pos _)).mono ?_
  rintro e w6 ⟨v6, rfl, hv6, hb6⟩
  have hv' := hv6
  obtain ⟨a6, n6, c6, a7, n7, c7, ev, _, _⟩ := hv'
  subst ev
  have z0 := cell_later hb6 C5.out.1
  have z1 := cell_later hb6 C5.out.2.1
  have y0 := (hb6.frozen (World.block_lt_of_cell? _ _ C5.out.1)).trans C5.out.2.2.1
  have y1 := (hb6.frozen (World.block_lt_of_cell? _ _ C5.out.2.1)).trans C5.out.2.2.2
  have Z : Hid _ := rrat_put (w0 := w) (v := .slice a6 n6 c6) (u := .slice a7 n7 c7) z0 z1 hv6 (bel_go S5.out.2.2 hb6) (Nat.le_refl _)
  clear hv6 hb6 S5 C5 k0 k1 g1 g2
  go_wp2_with fail
  exact bodyPost_ret (v := .tuple #[.agg #[.slice a6 n6 c6, .slice a7 n7 c7], .bool true]) (by simp [results, Tryz.results21, go_sem, z0, z1]) rfl ⟨_, rfl, Z.out.1, Z.out.2⟩
end Go.Proofs.YtdmkneojhnhomaaGreatDoor
namespace Go.Proofs.YtdmkneojhnhomaaGreatDoor
open Go.RowKit
set_option maxRecDepth 100000
set_option linter.unusedVariables false
theorem gtM_neg0 : gtM 9223372036854775808 = false := by decide +kernel
theorem rrate_yes (u : Nat) (w : World) (hu : u < 18446744073709551616) (hF : isF u) (hg : gtM u = false) : Calls Tryz.prog 21 #[.int .u64 (u : Int)] w (MakesRRB w (fN (nz u) / Nat.gcd (fN (nz u)) (fD (nz u))) (fD (nz u) / Nat.gcd (fN (nz u)) (fD (nz u))) true) := by
  obtain ⟨x0, E, m, t, s, h⟩ := rl_of u hu
  have h1 := h.x
  have h2 := h.e
  have h3 := h.m
  have h4 := h.t
  have h5 := h.s
  by_cases e : u = 9223372036854775808
  · have e0 : nz u = 0 := if_pos e
    have eE : E = 0 := by omega
    have rg := rg_of (u := u) (E := E) (m := m) (by rw [e0]; omega) (by rw [e0]; omega) (by omega)
    rw [if_pos eE, if_pos eE] at rg
    exact rrate_good2 u x0 E m t s 1074 w h (by omega) (by omega) eE rfl rg
  · have hl : u < 9218868437227405312 := hF.resolve_left e
    have e0 : nz u = u := if_neg e
    have hK : ¬ 4697254411347427328 < u := by
      have := gtM_iff hl
      rw [hg] at this
      exact of_decide_eq_false this.symm
    have rg := rg_of (u := u) (E := E) (m := m) (by rw [e0]; omega) (by rw [e0]; omega) (by omega)
    by_cases eE : E = 0
    · rw [if_pos eE, if_pos eE] at rg
      exact rrate_good1 u x0 E m t s 1074 w h (by omega) eE rfl rg
    · rw [if_neg eE, if_neg eE] at rg
      by_cases e3 : E < 1043
      · exact rrate_good3 u x0 E m t s _ _ w h (by omega) (by omega) e3 rfl rfl rg
      · exact rrate_good4 u x0 E m t s _ _ w h (by omega) (by omega) (by omega) rfl rfl rg
theorem rrate_no (u : Nat) (w : World) (hu : u < 18446744073709551616) (hn : ¬ (isF u ∧ gtM u = false)) : Calls Tryz.prog 21 #[.int .u64 (u : Int)] w (MakesRRB w 0 1 false) := by
  obtain ⟨x0, E, m, t, s, h⟩ := rl_of u hu
  have h1 := h.x
  have h2 := h.e
  have h3 := h.m
  have h4 := h.t
  have h5 := h.s
  by_cases e1 : E = 2047
  · exact rrate_bad1 u x0 E m t s w h e1
  · by_cases e2 : u < 9223372036854775808
    · have hl : u < 9218868437227405312 := by omega
      have hK : 4697254411347427328 < u := by
        have h6 := gtM_iff hl
        by_cases h7 : 4697254411347427328 < u
        · exact h7
        · rw [decide_eq_false h7] at h6
          exact absurd ⟨.inr hl, h6⟩ hn
      by_cases e3 : 1043 < E
      · exact rrate_bad3 u x0 E m t s w h e1 (by omega) e3
      · exact rrate_bad4 u x0 E m t s w h (by omega) (by omega) (by omega)
    · have hs : s ≠ 0 := by
        intro es
        have : u = 9223372036854775808 := by omega
        exact hn ⟨.inl this, by rw [this]; exact gtM_neg0⟩
      exact rrate_bad2 u x0 E m t s w h e1 (by omega) hs
/-- A rate's tokens, on both sides. -/
theorem rate_cmp {R D N Q t B n : Nat} (h : Fc R D N Q n) : B * Q ≤ N * t ↔ B * D ≤ R * t := by
  have hv := h.val
  have hD := h.pos
  have hQ := h.dpos
  have e1 : B * Q * D = B * D * Q := by grind
  have e2 : N * t * D = R * t * Q := by
    have : N * t * D = N * D * t := by grind
    rw [this, ← hv]
    grind
  rw [← Nat.mul_le_mul_right_iff hD, e1, e2, Nat.mul_le_mul_right_iff hQ]
theorem rate_same {R D N Q t n A C m : Nat} (h : Fc R D N Q n) (k : Fc A C (N * t) Q m) : Fc A C (R * t) D m := by
  refine ⟨k.low, k.pos, h.pos, ?_, k.s1, k.s2⟩
  have hv := h.val
  have kv := k.val
  refine Nat.eq_of_mul_eq_mul_right h.dpos ?_
  have e1 : A * D * Q = A * Q * D := by grind
  have e2 : R * t * C * Q = R * Q * t * C := by grind
  rw [e1, kv, e2, hv]
  grind
theorem floor_ge {A C N Q m B : Nat} (h : Fc A C N Q m) : B ≤ A / C ↔ B * Q ≤ N := by
  rw [Nat.le_div_iff_mul_le h.pos]
  have hv := h.val
  have e1 : B * C * Q = B * Q * C := by grind
  rw [← Nat.mul_le_mul_right_iff h.dpos, e1, hv, Nat.mul_le_mul_right_iff h.pos]
end Go.Proofs.YtdmkneojhnhomaaGreatDoor
namespace Go.Proofs.YtdmkneojhnhomaaGreatDoor
open Go.RowKit
set_option maxRecDepth 100000
set_option linter.unusedVariables false
/-- A bucket beside one box of a fraction. -/
structure Sr (W0 W : World) (b R D B : Nat) : Prop where
  bu : Bu W b 0 0 R D B
  lo : W0.heap.size ≤ b
  bel : Below W0.heap.size W0 W
  tab : Tab W
theorem Sr.go {W0 W W' : World} {b R D B : Nat} (h : Sr W0 W b R D B) (k : Below W.heap.size W W') : Sr W0 W' b R D B := ⟨h.bu.go k, h.lo, h.bel.trans (k.mono h.bel.size), h.tab.go k⟩
theorem int_far {w : World} {x y : Addr} {k : IntKind} {n : Int} {a : Option Addr} {m c : Nat} (h : w.cell? y = some (.int k n)) (hx : w.cell? x = some (.slice a m c)) (v : Value) : (w.setCell x v).cell? y = some (.int k n) := by
  have ne : x ≠ y := fun e => by rw [e, h] at hx; cases hx
  first | rw [World.cell?_setCell_other (h := ne)]; exact h | rw [World.cell?_setCell_other (h := ne.symm)]; exact h
theorem Sr.put {W0 W : World} {b R D B g : Nat} (h : Sr W0 W b R D B) (hg : W0.heap.size ≤ g) (hne : g ≠ b) {v1 v2 : Value} {a1 a2 : Option Addr} {n1 c1 n2 c2 : Nat} (x0 : W.cell? ⟨g, 0, none⟩ = some (.slice a1 n1 c1)) (x1 : W.cell? ⟨g, 1, none⟩ = some (.slice a2 n2 c2)) :
    Sr W0 ((W.setCell ⟨g, 0, none⟩ v1).setCell ⟨g, 1, none⟩ v2) b R D B ∧ ∀ V p q, RRt W V p q → RRt ((W.setCell ⟨g, 0, none⟩ v1).setCell ⟨g, 1, none⟩ v2) V p q := by
  have F : Fb (fun x => x = g) W ((W.setCell ⟨g, 0, none⟩ v1).setCell ⟨g, 1, none⟩ v2) := ((Fb.refl (fun x => x = g) W).set (x := ⟨g, 0, none⟩) rfl v1).set (x := ⟨g, 1, none⟩) rfl v2
  have hs := two_set x0 x1 v1
  have x1' : (W.setCell ⟨g, 0, none⟩ v1).cell? ⟨g, 1, none⟩ = some (.slice a2 n2 c2) := by rw [World.cell?_setCell_other (h := by simp)]; exact x1
  refine ⟨⟨?_, h.lo, (h.bel.setCell hg _).setCell hg _, fun j hj => int_far (int_far (h.tab j hj) x0 _) x1' _⟩, fun V p q hv => (hv.setCell hs.1 _).setCell hs.2 _⟩
  obtain ⟨p0, q0, u1, u2, u3, u4, u5, u6, hb, h1, f1, h2, h3⟩ := h.bu.ex
  exact ⟨⟨⟨p0, q0, u1, u2, u3, u4, u5, u6, F.heap hb (fun e => hne e.symm), (h1.setCell hs.1 _).setCell hs.2 _, f1, (h2.setCell hs.1 _).setCell hs.2 _, (h3.setCell hs.1 _).setCell hs.2 _⟩, h.bu.cT, h.bu.cB, h.bu.cD, h.bu.cR, h.bu.low⟩, h.bu.cN⟩
theorem Sr.at {W0 W : World} {b R D B t p q : Nat} (h : Sr W0 W b R D B) (ht : t ≤ 4611686018427387904) (hf : Fc p q (fillN 0 R D B t) D 20) : Calls Tryz.prog 13 #[.pointer (some ⟨b, 0, none⟩), .int .i64 (t : Int)] W fun e W' => ∃ v, e = .returned v ∧ Rt W' v p q ∧ Below W0.heap.size W0 W' ∧ Fb (fun x => x = b) W W' := by
  refine (bat_any b 0 0 R D B (t : Int) W h.bu h.tab).mono ?_
  rintro e W' ⟨v, p', q', rfl, hv, hf', k, f⟩
  rw [atN_of (Nat.zero_le _) ht, Nat.sub_zero] at hf'
  obtain ⟨rfl, rfl⟩ := hf'.one hf
  exact ⟨v, rfl, hv, h.bel.trans (f.below h.bel.size (fun x e => e ▸ h.lo)), f⟩
set_option maxHeartbeats 8000000 in
theorem rate_any (W0 : World) (u : Nat) (per i2 : Int) (hu : u < 18446744073709551616) (r1 : -9223372036854775808 ≤ per ∧ per ≤ 9223372036854775807) (r2 : -9223372036854775808 ≤ i2 ∧ i2 ≤ 9223372036854775807) (hT : Tab W0) :
    Calls Tryz.prog 7 #[.int .u64 (u : Int), .int .i64 per, .int .i64 i2] W0 fun e w' => e = .returned (.bool true) ∧ Below W0.heap.size W0 w' := by
  obtain ⟨B, hB⟩ : ∃ B : Nat, B = 1099511627776 := ⟨_, rfl⟩
  have eB : (B : Int) = 1099511627776 := by omega
  have FA : Hid (∀ w, Calls Tryz.prog 20 #[.int .i64 i2, .int .i64 4611686018427387904] w fun e w' => e = .returned (.int .i64 ((fewN i2 4611686018427387904 : Nat) : Int)) ∧ w = w') := fun w => by
    obtain ⟨m, hm⟩ : ∃ m : Nat, m = 4611686018427387904 := ⟨_, rfl⟩
    have := few_any i2 m w r2.1 r2.2 (by omega)
    rw [show (m : Int) = 4611686018427387904 by omega] at this
    rw [← hm]
    exact this.mono fun e w' h => ⟨h.1, h.2.symm⟩
  have FT : Hid (∀ w, Calls Tryz.prog 10 #[.int .u64 (u : Int)] w fun e w' => e = .returned (.float .f64 u) ∧ w = w') := fun w => (float_any u w).mono fun e w' h => ⟨h.1, h.2.symm⟩
  have NY : Hid (∀ (k : Nat) w, Tab w → rateOk u (k : Int) → Calls Tryz.prog 9 #[.int .i64 1099511627776, .float .f64 u, .int .i64 (k : Int), .int .i64 0] w (NewYes w 0 (rP u k) (rQ u k) B)) := fun k w hT h => by
    have := bnew_yes B u k 0 w (by omega) (by omega) h (by omega) hT
    rw [eB] at this
    exact this
  have NN : Hid (∀ w, ¬ rateOk u per → Calls Tryz.prog 9 #[.int .i64 1099511627776, .float .f64 u, .int .i64 per, .int .i64 0] w (NewNo w 98)) := fun w h => bnew_rate 1099511627776 u per 0 w (by omega) (by omega) h hu
  have OB : Hid (∀ w, Calls Tryz.prog 30 #[.int .u64 1099511627776] w (RMakes w B)) := fun w => by
    have := rof_any B w (by omega)
    rw [eB] at this
    exact this
  have WB : Hid (∀ w, Calls Tryz.prog 25 #[.int .u64 1099511627776] w (MakesRR w B 1)) := fun w => by
    have := rwhole_any B w (by omega)
    rw [eB] at this
    exact this
  have HB : Hid (B = 1099511627776) := hB
  have HU : Hid (u < 18446744073709551616 ∧ Tab W0) := ⟨hu, hT⟩
  clear hB eB hu hT r2
  go_enter Tryz.func7, Tryz.ntmps7
  go_wp2_with fail
  refine (FA.out _).mono ?_
  rintro e w1 ⟨rfl, rfl⟩
  obtain ⟨t, ht⟩ : ∃ f, f = fewN i2 4611686018427387904 := ⟨_, rfl⟩
  have HT : Hid (t ≤ 4611686018427387904) := by show _ ≤ _; rw [ht]; exact fewN_le _ _
  rw [← ht]
  clear ht FA
  go_wp2_with fail
  refine (FT.out _).mono ?_
  rintro e w1 ⟨rfl, rfl⟩
  go_wp2_with fail
  by_cases hr : rateOk u per
  · obtain ⟨k, rfl⟩ : ∃ k : Nat, per = (k : Int) := ⟨per.toNat, by have := hr.2.1; omega⟩
    refine (NY.out k _ HU.out.2 hr).mono ?_
    rintro e w2 ⟨b, rfl, hb, hub, hbl⟩
    have rf := rate_fc hr.2.2.2 (per := k) (by have := hr.2.1; omega) (by have := hr.2.2.1; omega)
    obtain ⟨R, eR⟩ : ∃ R, R = rP u k := ⟨_, rfl⟩
    obtain ⟨D, eD⟩ : ∃ D, D = rQ u k := ⟨_, rfl⟩
    rw [← eR, ← eD] at hub rf
    have S0 : Hid (Sr W0 w2 b R D B) := ⟨hub, hb, hbl, HU.out.2.go hbl⟩
    have K1 : 1 ≤ k := by have := hr.2.1; omega
    have K2 : k ≤ 1073741824 := by have := hr.2.2.1; omega
    obtain ⟨NN0, eN0⟩ : ∃ N, N = fN (nz u) := ⟨_, rfl⟩
    obtain ⟨DD0, eD0⟩ : ∃ N, N = fD (nz u) := ⟨_, rfl⟩
    have hs1 : NN0 < P 17 := by rw [eN0]; exact P_up (fN_lt (nz_lt hr.2.2.2)) (by omega)
    have hs2 : DD0 < P 17 := by rw [eD0]; exact fD_lt _
    have hd0 : 0 < DD0 := by rw [eD0]; exact fD_pos _
    have RY : Hid (∀ w, Calls Tryz.prog 21 #[.int .u64 (u : Int)] w (MakesRRB w (NN0 / Nat.gcd NN0 DD0) (DD0 / Nat.gcd NN0 DD0) true)) := fun w => by rw [eN0, eD0]; exact rrate_yes u w HU.out.1 hr.2.2.2 hr.1
    have FR : Hid (Fc R D NN0 (DD0 * k) 18) := by rw [eN0, eD0]; exact rf
    have FQ := low_fc (N := NN0) (D := DD0) (n := 17) hd0 hs1 hs2
    obtain ⟨A1, C1, fm1, mi1⟩ := FQ.rmulInt (by omega) (k := t) (by have := HT.out; omega)
    obtain ⟨A2, C2, fm2, mi2⟩ := fm1.rdivInt (by omega) (k := k) (by omega) (by omega)
    have MI1 : Hid (∀ v w, RRt w v (NN0 / Nat.gcd NN0 DD0) (DD0 / Nat.gcd NN0 DD0) → Calls Tryz.prog 23 #[v, .int .i64 (t : Int)] w (MakesRRB w A1 C1 true)) := mi1
    have MI2 : Hid (∀ v w, RRt w v A1 C1 → Calls Tryz.prog 22 #[v, .int .i64 (k : Int)] w (MakesRRB w A2 C2 true)) := mi2
    have FM : Hid (Fc A2 C2 (NN0 * t) (DD0 * k) 19) := fm2
    have e1 : decide ((1 : Int) ≤ (k : Int)) = true := decide_eq_true (by omega)
    have e2 : decide ((k : Int) ≤ 1073741824) = true := decide_eq_true (by omega)
    have e1' : decide (1 ≤ k) = true := decide_eq_true K1
    have e2' : decide (k ≤ 1073741824) = true := decide_eq_true K2
    clear hb hub hbl rf eR eD eN0 eD0 hs1 hs2 hd0 FQ fm1 mi1 fm2 mi2 hr NY NN r1
    go_wp2_with fail
    refine (RY.out _).mono ?_
    rintro e w3 ⟨v3, rfl, hv3, hb3⟩
    have hv' := hv3
    obtain ⟨a1, n1, c1, a2, n2, c2, ev, _, _⟩ := hv'
    subst ev
    have bx := bel_go hb3 (bel_al (o := .cells #[.slice a1 n1 c1, .slice a2 n2 c2] 35) (bel_refl _))
    have S1 : Hid (Sr W0 (w3.alloc (.cells #[.slice a1 n1 c1, .slice a2 n2 c2] 35)) b R D B ∧ RRt (w3.alloc (.cells #[.slice a1 n1 c1, .slice a2 n2 c2] 35)) (.agg #[.slice a1 n1 c1, .slice a2 n2 c2]) (NN0 / Nat.gcd NN0 DD0) (DD0 / Nat.gcd NN0 DD0)) := ⟨S0.out.go bx, hv3.mono (bel_al (bel_refl _))⟩
    have z0 : (w3.alloc (.cells #[.slice a1 n1 c1, .slice a2 n2 c2] 35)).cell? ⟨w3.heap.size, 0, none⟩ = some (.slice a1 n1 c1) := by simp [go_sem]
    have z1 : (w3.alloc (.cells #[.slice a1 n1 c1, .slice a2 n2 c2] 35)).cell? ⟨w3.heap.size, 1, none⟩ = some (.slice a2 n2 c2) := by simp [go_sem]
    have HC : Hid _ := And.intro z0 z1
    clear hv3 hb3 bx S0 RY z0 z1
    go_wp2_with fail
    refine (btold_true _ S1.out.1.tab).mono ?_
    rintro e w4 ⟨rfl, hb4⟩
    have z0 := cell_later hb4 HC.out.1
    have z1 := cell_later hb4 HC.out.2
    have S2 : Hid (Sr W0 w4 b R D B ∧ RRt w4 (.agg #[.slice a1 n1 c1, .slice a2 n2 c2]) (NN0 / Nat.gcd NN0 DD0) (DD0 / Nat.gcd NN0 DD0)) := ⟨S1.out.1.go hb4, S1.out.2.mono hb4⟩
    clear hb4 S1 HC
    go_wp2_with fail
    refine (MI1.out _ _ S2.out.2).mono ?_
    rintro e w5 ⟨v5, rfl, hv5, hb5⟩
    have hv' := hv5
    obtain ⟨a3, n3, c3, a4, n4, c4, ev, _, _⟩ := hv'
    subst ev
    have bx := bel_go hb5 (bel_al (o := .cells #[.slice a3 n3 c3, .slice a4 n4 c4] 35) (bel_refl _))
    have S3 : Hid (Sr W0 (w5.alloc (.cells #[.slice a3 n3 c3, .slice a4 n4 c4] 35)) b R D B ∧ RRt (w5.alloc (.cells #[.slice a3 n3 c3, .slice a4 n4 c4] 35)) (.agg #[.slice a3 n3 c3, .slice a4 n4 c4]) A1 C1) := ⟨S2.out.1.go bx, hv5.mono (bel_al (bel_refl _))⟩
    have y0 : (w5.alloc (.cells #[.slice a3 n3 c3, .slice a4 n4 c4] 35)).cell? ⟨w5.heap.size, 0, none⟩ = some (.slice a3 n3 c3) := by simp [go_sem]
    have y1 : (w5.alloc (.cells #[.slice a3 n3 c3, .slice a4 n4 c4] 35)).cell? ⟨w5.heap.size, 1, none⟩ = some (.slice a4 n4 c4) := by simp [go_sem]
    have x0 : (w5.alloc (.cells #[.slice a3 n3 c3, .slice a4 n4 c4] 35)).frozen? ⟨w5.heap.size, 0, none⟩ = false := by simp [go_sem]
    have x1 : (w5.alloc (.cells #[.slice a3 n3 c3, .slice a4 n4 c4] 35)).frozen? ⟨w5.heap.size, 1, none⟩ = false := by simp [go_sem]
    have HL : Hid (W0.heap.size ≤ w5.heap.size ∧ w5.heap.size ≠ b) := ⟨(S2.out.1.go hb5).bel.size, by have := (S2.out.1.go hb5).bu.lt; omega⟩
    have HC : Hid _ := And.intro (And.intro y0 y1) (And.intro x0 x1)
    clear hv5 hb5 bx S2 MI1 y0 y1 x0 x1 z0 z1
    go_wp2_with fail
    obtain ⟨w6, hw6⟩ : ∃ w6, w6 = w5.alloc (.cells #[.slice a3 n3 c3, .slice a4 n4 c4] 35) := ⟨_, rfl⟩
    obtain ⟨g, hg⟩ : ∃ g, g = w5.heap.size := ⟨_, rfl⟩
    rw [← hw6] at S3 HC
    rw [← hg] at HC HL
    rw [← hw6, ← hg]
    clear hw6 hg
    refine (MI2.out _ _ S3.out.2).mono ?_
    rintro e w7 ⟨v7, rfl, hv7, hb7⟩
    have hv' := hv7
    obtain ⟨a5, n5, c5, a6, n6, c6, ev, _, _⟩ := hv'
    subst ev
    have y0 := cell_later hb7 HC.out.1.1
    have y1 := cell_later hb7 HC.out.1.2
    have x0 := (hb7.frozen (World.block_lt_of_cell? _ _ HC.out.1.1)).trans HC.out.2.1
    have x1 := (hb7.frozen (World.block_lt_of_cell? _ _ HC.out.1.2)).trans HC.out.2.2
    have S4 : Hid (Sr W0 w7 b R D B ∧ RRt w7 (.agg #[.slice a5 n5 c5, .slice a6 n6 c6]) A2 C2) := ⟨S3.out.1.go hb7, hv7⟩
    clear hv7 hb7 S3 MI2 HC
    have PT := S4.out.1.put (v1 := .slice a5 n5 c5) (v2 := .slice a6 n6 c6) HL.out.1 HL.out.2 y0 y1
    have ST : Hid (Sr W0 ((w7.setCell ⟨g, 0, none⟩ (.slice a5 n5 c5)).setCell ⟨g, 1, none⟩ (.slice a6 n6 c6)) b R D B ∧ RRt ((w7.setCell ⟨g, 0, none⟩ (.slice a5 n5 c5)).setCell ⟨g, 1, none⟩ (.slice a6 n6 c6)) (.agg #[.slice a5 n5 c5, .slice a6 n6 c6]) A2 C2) := ⟨PT.1, PT.2 _ _ _ S4.out.2⟩
    have u0 : ((w7.setCell ⟨g, 0, none⟩ (.slice a5 n5 c5)).setCell ⟨g, 1, none⟩ (.slice a6 n6 c6)).cell? ⟨g, 0, none⟩ = some (.slice a5 n5 c5) := by simp [go_sem, y0]
    have u1 : ((w7.setCell ⟨g, 0, none⟩ (.slice a5 n5 c5)).setCell ⟨g, 1, none⟩ (.slice a6 n6 c6)).cell? ⟨g, 1, none⟩ = some (.slice a6 n6 c6) := by simp [go_sem, y1]
    have x2 : ((w7.setCell ⟨g, 0, none⟩ (.slice a5 n5 c5)).setCell ⟨g, 1, none⟩ (.slice a6 n6 c6)).frozen? ⟨g, 0, none⟩ = false := by simp [World.frozen?_setCell, x0]
    have x3 : ((w7.setCell ⟨g, 0, none⟩ (.slice a5 n5 c5)).setCell ⟨g, 1, none⟩ (.slice a6 n6 c6)).frozen? ⟨g, 1, none⟩ = false := by simp [World.frozen?_setCell, x1]
    have HC : Hid _ := And.intro (And.intro u0 u1) (And.intro x2 x3)
    have HS : Hid (RS A2 ∧ RS C2 ∧ C2 ≠ 0 ∧ RSome A2 ∧ RSome C2) := ⟨FM.out.rs1 (by omega), FM.out.rs2 (by omega), by have := FM.out.pos; omega, (FM.out.rs1 (by omega)).rsome, (FM.out.rs2 (by omega)).rsome⟩
    clear PT S4 x2 x3
    go_wp2_with fail
    clear u0 u1
    obtain ⟨w8, hw8⟩ : ∃ w8, w8 = (w7.setCell ⟨g, 0, none⟩ (.slice a5 n5 c5)).setCell ⟨g, 1, none⟩ (.slice a6 n6 c6) := ⟨_, rfl⟩
    rw [← hw8] at ST HC
    rw [← hw8]
    clear hw8 y0 y1 x0 x1
    refine (rfloor2_any _ A2 C2 w8 ST.out.2 HS.out.2.2.2.1 HS.out.2.2.2.2 HS.out.2.2.1).mono ?_
    rintro e w9 ⟨v9, rfl, hv9, hb9⟩
    have S5 : Hid (Sr W0 w9 b R D B ∧ RRt w9 (.agg #[.slice a5 n5 c5, .slice a6 n6 c6]) A2 C2 ∧ RNat w9 v9 (A2 / C2) ∧ w9.cell? ⟨g, 0, none⟩ = some (.slice a5 n5 c5) ∧ w9.cell? ⟨g, 1, none⟩ = some (.slice a6 n6 c6) ∧ w9.frozen? ⟨g, 0, none⟩ = false ∧ w9.frozen? ⟨g, 1, none⟩ = false) := ⟨ST.out.1.go hb9, ST.out.2.mono hb9, hv9, cell_later hb9 HC.out.1.1, cell_later hb9 HC.out.1.2, (hb9.frozen (World.block_lt_of_cell? _ _ HC.out.1.1)).trans HC.out.2.1, (hb9.frozen (World.block_lt_of_cell? _ _ HC.out.1.2)).trans HC.out.2.2⟩
    clear hv9 hb9 ST HC
    go_wp2_with fail
    refine (OB.out _).mono ?_
    rintro e w10 ⟨v10, rfl, hv10, hb10⟩
    have S6 : Hid (Sr W0 w10 b R D B ∧ RRt w10 (.agg #[.slice a5 n5 c5, .slice a6 n6 c6]) A2 C2 ∧ RNat w10 v9 (A2 / C2) ∧ RNat w10 v10 B ∧ w10.cell? ⟨g, 0, none⟩ = some (.slice a5 n5 c5) ∧ w10.cell? ⟨g, 1, none⟩ = some (.slice a6 n6 c6) ∧ w10.frozen? ⟨g, 0, none⟩ = false ∧ w10.frozen? ⟨g, 1, none⟩ = false) := ⟨S5.out.1.go hb10, S5.out.2.1.mono hb10, S5.out.2.2.1.mono hb10, hv10, cell_later hb10 S5.out.2.2.2.1, cell_later hb10 S5.out.2.2.2.2.1, (hb10.frozen (World.block_lt_of_cell? _ _ S5.out.2.2.2.1)).trans S5.out.2.2.2.2.2.1, (hb10.frozen (World.block_lt_of_cell? _ _ S5.out.2.2.2.2.1)).trans S5.out.2.2.2.2.2.2⟩
    clear hv10 hb10 S5
    go_wp2_with fail
    refine (rcmp_any v9 v10 (A2 / C2) B w10 S6.out.2.2.1 S6.out.2.2.2.1 (HS.out.1.le (Nat.div_le_self _ _)).rfits (rs_word (by have := HB.out; omega)).rfits).mono ?_
    rintro e w11 ⟨rfl, hb11⟩
    have S7 : Hid (Sr W0 w11 b R D B ∧ RRt w11 (.agg #[.slice a5 n5 c5, .slice a6 n6 c6]) A2 C2 ∧ w11.cell? ⟨g, 0, none⟩ = some (.slice a5 n5 c5) ∧ w11.cell? ⟨g, 1, none⟩ = some (.slice a6 n6 c6) ∧ w11.frozen? ⟨g, 0, none⟩ = false ∧ w11.frozen? ⟨g, 1, none⟩ = false) := ⟨S6.out.1.go hb11, S6.out.2.1.mono hb11, cell_later hb11 S6.out.2.2.2.2.1, cell_later hb11 S6.out.2.2.2.2.2.1, (hb11.frozen (World.block_lt_of_cell? _ _ S6.out.2.2.2.2.1)).trans S6.out.2.2.2.2.2.2.1, (hb11.frozen (World.block_lt_of_cell? _ _ S6.out.2.2.2.2.2.1)).trans S6.out.2.2.2.2.2.2.2⟩
    obtain ⟨z, hz⟩ : ∃ z, z = cmpI (A2 / C2) B := ⟨_, rfl⟩
    have dz : decide (0 ≤ z) = decide (B ≤ A2 / C2) := by rw [hz, cmpI_ge]
    have CF : Hid (B ≤ A2 / C2 ↔ B * D ≤ R * t) := (floor_ge FM.out).trans (rate_cmp FR.out)
    rw [← hz]
    clear hb11 S6 hz
    by_cases hfull : B ≤ A2 / C2
    · have hN : Hid (Fc B 1 (fillN 0 R D B t) D 20) := by
        have h1 : B * D ≤ R * t := CF.out.1 hfull
        have h2 : fillN 0 R D B t = B * D := by unfold fillN; omega
        rw [h2]
        exact ⟨Nat.gcd_one_right _, by omega, FR.out.pos, by rw [Nat.mul_one], P_up (n := 1) (by rw [P_one]; have := HB.out; omega) (by omega), P_up (n := 1) (by rw [P_one]; omega) (by omega)⟩
      rw [decide_eq_true hfull] at dz
      clear hfull CF
      go_wp2_with fail
      refine (WB.out _).mono ?_
      rintro e w12 ⟨v12, rfl, hv12, hb12⟩
      have hv' := hv12
      obtain ⟨a7, n7, c7, a8, n8, c8, ev, _, _⟩ := hv'
      subst ev
      have y0 := cell_later hb12 S7.out.2.2.1
      have y1 := cell_later hb12 S7.out.2.2.2.1
      have x0 := (hb12.frozen (World.block_lt_of_cell? _ _ S7.out.2.2.1)).trans S7.out.2.2.2.2.1
      have x1 := (hb12.frozen (World.block_lt_of_cell? _ _ S7.out.2.2.2.1)).trans S7.out.2.2.2.2.2
      have PT := (S7.out.1.go hb12).put (v1 := .slice a7 n7 c7) (v2 := .slice a8 n8 c8) HL.out.1 HL.out.2 y0 y1
      have S8 : Hid (Sr W0 ((w12.setCell ⟨g, 0, none⟩ (.slice a7 n7 c7)).setCell ⟨g, 1, none⟩ (.slice a8 n8 c8)) b R D B ∧ RRt ((w12.setCell ⟨g, 0, none⟩ (.slice a7 n7 c7)).setCell ⟨g, 1, none⟩ (.slice a8 n8 c8)) (.agg #[.slice a7 n7 c7, .slice a8 n8 c8]) B 1 ∧ ((w12.setCell ⟨g, 0, none⟩ (.slice a7 n7 c7)).setCell ⟨g, 1, none⟩ (.slice a8 n8 c8)).cell? ⟨g, 0, none⟩ = some (.slice a7 n7 c7) ∧ ((w12.setCell ⟨g, 0, none⟩ (.slice a7 n7 c7)).setCell ⟨g, 1, none⟩ (.slice a8 n8 c8)).cell? ⟨g, 1, none⟩ = some (.slice a8 n8 c8)) := ⟨PT.1, PT.2 _ _ _ hv12, by simp [go_sem, y0], by simp [go_sem, y1]⟩
      clear PT hv12 hb12 S7
      go_wp2_with fail
      obtain ⟨w13, hw13⟩ : ∃ w13, w13 = (w12.setCell ⟨g, 0, none⟩ (.slice a7 n7 c7)).setCell ⟨g, 1, none⟩ (.slice a8 n8 c8) := ⟨_, rfl⟩
      rw [← hw13] at S8
      rw [← hw13]
      clear hw13 y0 y1 x0 x1
      have hrs : Hid (RS B ∧ RS 1) := ⟨rs_word (by have := HB.out; omega), rs_word (by omega)⟩
      refine wp_region_held_drew (S := fun w9 => w9.cell? ⟨g, 0, none⟩ = some (.slice a7 n7 c7) ∧ w9.cell? ⟨g, 1, none⟩ = some (.slice a8 n8 c8)) (by kernel_rfl) ⟨S8.out.2.2.1, S8.out.2.2.2⟩ (fun hHeld => ?_)
      refine wpAnyH_take (i := 0) (v := .pointer (some ⟨b, 0, none⟩)) rfl (by kernel_rfl) (by kernel_rfl) (by kernel_rfl) (fun _ _ _ h => h) (Or.inl ⟨by rfl, ?_⟩) (by assumption) ?_
      · intro w hSw
        obtain ⟨g1, g2⟩ := hSw
        go_simp
      refine wpAnyH_take (i := 1) (v := .int .i64 (t : Int)) rfl (by kernel_rfl) (by kernel_rfl) (by kernel_rfl) (fun _ _ _ h => h) (Or.inl ⟨by rfl, ?_⟩) (by assumption) ?_
      · intro w hSw
        obtain ⟨g1, g2⟩ := hSw
        go_simp
      refine wpAnyH_take (i := 3) (v := .agg #[.slice a7 n7 c7, .slice a8 n8 c8]) rfl (by kernel_rfl) (by kernel_rfl) (by kernel_rfl) (fun _ _ _ h => h) (Or.inl ⟨by rfl, ?_⟩) (by assumption) ?_
      · intro w hSw
        obtain ⟨g1, g2⟩ := hSw
        go_simp
      refine wpAnyH_ready (rs := [2]) (by kernel_rfl) (by simp) ?_
      refine AllReadyH.cons rfl (fun K9 hK9 => ?_) AllReadyH.nil
      go_simp
      refine Calls.mono ((S8.out.1.go (bel_dr (bel_refl _))).at HT.out hN.out) ?_
      rintro e w14 ⟨v14, rfl, hv14, hbl, hF14⟩
      replace hF14 := (Fb.of (S := fun x => x = b) (bel_dr (bel_refl w13))).trans hF14
      have c0 := hF14.cell S8.out.2.2.1 HL.out.2
      have c1 := hF14.cell S8.out.2.2.2 HL.out.2
      have S9 : Hid (Rt w14 v14 (B) (1) ∧ RRt w14 (.agg #[.slice a7 n7 c7, .slice a8 n8 c8]) (B) (1) ∧ Below W0.heap.size W0 w14) := ⟨hv14, S8.out.2.1.fb hF14 (fun k e => e ▸ S8.out.1.bu.odd), hbl⟩
      clear hv14 hbl hF14 hHeld
      refine hK9.out _ _ ⟨c0, c1⟩ (fun hHeld => ?_)
      clear hK9 K9
      refine wpAnyH_ready (rs := [4]) (by kernel_rfl) (by simp) ?_
      refine AllReadyH.cons rfl (fun K9 hK9 => ?_) AllReadyH.nil
      go_simp
      refine Calls.mono (rsame_true v14 (.agg #[.slice a7 n7 c7, .slice a8 n8 c8]) (B) (1) _ S9.out.1 S9.out.2.1 hrs.out.1 hrs.out.2) ?_
      rintro e w15 ⟨rfl, hb15⟩
      have k0 := cell_later hb15 c0
      have k1 := cell_later hb15 c1
      have SA : Hid (Below W0.heap.size W0 w15) := S9.out.2.2.trans (hb15.mono S9.out.2.2.size)
      clear hb15 S9 hHeld
      refine hK9.out _ _ ⟨k0, k1⟩ (fun hHeld => ?_)
      clear hK9 K9
      refine wpAnyH_take (i := 5) (v := .bool true) rfl (by kernel_rfl) (by kernel_rfl) (by kernel_rfl) (fun _ _ _ h => h) (Or.inl ⟨by rfl, ?_⟩) (by assumption) ?_
      · intro w hSw
        obtain ⟨g1, g2⟩ := hSw
        go_simp
      refine wpAnyH_done (by kernel_rfl) ?_ _
      go_wp2_with fail
      go_ret
      exact ⟨rfl, SA.out⟩
    · have hN : Hid (Fc A2 C2 (fillN 0 R D B t) D 20) := by
        have h1 : ¬ B * D ≤ R * t := fun e => hfull (CF.out.2 e)
        have h2 : fillN 0 R D B t = R * t := by unfold fillN; omega
        rw [h2]
        have h3 := rate_same FR.out FM.out
        exact ⟨h3.low, h3.pos, h3.dpos, h3.val, P_up h3.s1 (by omega), P_up h3.s2 (by omega)⟩
      rw [decide_eq_false hfull] at dz
      clear hfull CF
      go_wp2_with fail
      have S8 : Hid (Sr W0 w11 b R D B ∧ RRt w11 (.agg #[.slice a5 n5 c5, .slice a6 n6 c6]) A2 C2 ∧ w11.cell? ⟨g, 0, none⟩ = some (.slice a5 n5 c5) ∧ w11.cell? ⟨g, 1, none⟩ = some (.slice a6 n6 c6)) := ⟨S7.out.1, S7.out.2.1, S7.out.2.2.1, S7.out.2.2.2.1⟩
      have hrs : Hid (RS A2 ∧ RS C2) := ⟨HS.out.1, HS.out.2.1⟩
      clear S7
      refine wp_region_held_drew (S := fun w9 => w9.cell? ⟨g, 0, none⟩ = some (.slice a5 n5 c5) ∧ w9.cell? ⟨g, 1, none⟩ = some (.slice a6 n6 c6)) (by kernel_rfl) ⟨S8.out.2.2.1, S8.out.2.2.2⟩ (fun hHeld => ?_)
      refine wpAnyH_take (i := 0) (v := .pointer (some ⟨b, 0, none⟩)) rfl (by kernel_rfl) (by kernel_rfl) (by kernel_rfl) (fun _ _ _ h => h) (Or.inl ⟨by rfl, ?_⟩) (by assumption) ?_
      · intro w hSw
        obtain ⟨g1, g2⟩ := hSw
        go_simp
      refine wpAnyH_take (i := 1) (v := .int .i64 (t : Int)) rfl (by kernel_rfl) (by kernel_rfl) (by kernel_rfl) (fun _ _ _ h => h) (Or.inl ⟨by rfl, ?_⟩) (by assumption) ?_
      · intro w hSw
        obtain ⟨g1, g2⟩ := hSw
        go_simp
      refine wpAnyH_take (i := 3) (v := .agg #[.slice a5 n5 c5, .slice a6 n6 c6]) rfl (by kernel_rfl) (by kernel_rfl) (by kernel_rfl) (fun _ _ _ h => h) (Or.inl ⟨by rfl, ?_⟩) (by assumption) ?_
      · intro w hSw
        obtain ⟨g1, g2⟩ := hSw
        go_simp
      refine wpAnyH_ready (rs := [2]) (by kernel_rfl) (by simp) ?_
      refine AllReadyH.cons rfl (fun K9 hK9 => ?_) AllReadyH.nil
      go_simp
      refine Calls.mono ((S8.out.1.go (bel_dr (bel_refl _))).at HT.out hN.out) ?_
      rintro e w14 ⟨v14, rfl, hv14, hbl, hF14⟩
      replace hF14 := (Fb.of (S := fun x => x = b) (bel_dr (bel_refl w11))).trans hF14
      have c0 := hF14.cell S8.out.2.2.1 HL.out.2
      have c1 := hF14.cell S8.out.2.2.2 HL.out.2
      have S9 : Hid (Rt w14 v14 (A2) (C2) ∧ RRt w14 (.agg #[.slice a5 n5 c5, .slice a6 n6 c6]) (A2) (C2) ∧ Below W0.heap.size W0 w14) := ⟨hv14, S8.out.2.1.fb hF14 (fun k e => e ▸ S8.out.1.bu.odd), hbl⟩
      clear hv14 hbl hF14 hHeld
      refine hK9.out _ _ ⟨c0, c1⟩ (fun hHeld => ?_)
      clear hK9 K9
      refine wpAnyH_ready (rs := [4]) (by kernel_rfl) (by simp) ?_
      refine AllReadyH.cons rfl (fun K9 hK9 => ?_) AllReadyH.nil
      go_simp
      refine Calls.mono (rsame_true v14 (.agg #[.slice a5 n5 c5, .slice a6 n6 c6]) (A2) (C2) _ S9.out.1 S9.out.2.1 hrs.out.1 hrs.out.2) ?_
      rintro e w15 ⟨rfl, hb15⟩
      have k0 := cell_later hb15 c0
      have k1 := cell_later hb15 c1
      have SA : Hid (Below W0.heap.size W0 w15) := S9.out.2.2.trans (hb15.mono S9.out.2.2.size)
      clear hb15 S9 hHeld
      refine hK9.out _ _ ⟨k0, k1⟩ (fun hHeld => ?_)
      clear hK9 K9
      refine wpAnyH_take (i := 5) (v := .bool true) rfl (by kernel_rfl) (by kernel_rfl) (by kernel_rfl) (fun _ _ _ h => h) (Or.inl ⟨by rfl, ?_⟩) (by assumption) ?_
      · intro w hSw
        obtain ⟨g1, g2⟩ := hSw
        go_simp
      refine wpAnyH_done (by kernel_rfl) ?_ _
      go_wp2_with fail
      go_ret
      exact ⟨rfl, SA.out⟩
  · refine (NN.out _ hr).mono ?_
    rintro e w2 ⟨rfl, hbl⟩
    have S0 : Hid (Below W0.heap.size W0 w2 ∧ Tab w2) := ⟨hbl, HU.out.2.go hbl⟩
    clear hbl NY NN
    go_wp2_with fail
    by_cases hk : isF u ∧ gtM u = false
    · by_cases h1 : 1 ≤ per
      · have e1 : decide ((1 : Int) ≤ per) = true := decide_eq_true h1
        have e2 : decide (per ≤ (1073741824 : Int)) = false := decide_eq_false (fun e => hr ⟨hk.2, h1, e, hk.1⟩)
        refine (rrate_yes u w2 HU.out.1 hk.1 hk.2).mono ?_
        rintro e w3 ⟨v3, rfl, hv3, hb3⟩
        obtain ⟨a1, n1, c1, a2, n2, c2, ev, _, _⟩ := hv3
        subst ev
        have bx := bel_go hb3 (bel_al (o := .cells #[.slice a1 n1 c1, .slice a2 n2 c2] 35) (bel_refl _))
        have S1 : Hid (Below W0.heap.size W0 (w3.alloc (.cells #[.slice a1 n1 c1, .slice a2 n2 c2] 35)) ∧ Tab (w3.alloc (.cells #[.slice a1 n1 c1, .slice a2 n2 c2] 35))) := ⟨S0.out.1.trans (bx.mono S0.out.1.size), S0.out.2.go bx⟩
        clear hb3 bx S0
        clear hk hr h1
        go_wp2_with fail
        refine (btold_true _ S1.out.2).mono ?_
        rintro e w4 ⟨rfl, hb4⟩
        have S2 : Hid (Below W0.heap.size W0 w4) := S1.out.1.trans (hb4.mono S1.out.1.size)
        clear hb4 S1
        go_wp2_with fail
        go_ret
        exact ⟨rfl, S2.out⟩
      · have e1 : decide ((1 : Int) ≤ per) = false := decide_eq_false h1
        refine (rrate_yes u w2 HU.out.1 hk.1 hk.2).mono ?_
        rintro e w3 ⟨v3, rfl, hv3, hb3⟩
        obtain ⟨a1, n1, c1, a2, n2, c2, ev, _, _⟩ := hv3
        subst ev
        have bx := bel_go hb3 (bel_al (o := .cells #[.slice a1 n1 c1, .slice a2 n2 c2] 35) (bel_refl _))
        have S1 : Hid (Below W0.heap.size W0 (w3.alloc (.cells #[.slice a1 n1 c1, .slice a2 n2 c2] 35)) ∧ Tab (w3.alloc (.cells #[.slice a1 n1 c1, .slice a2 n2 c2] 35))) := ⟨S0.out.1.trans (bx.mono S0.out.1.size), S0.out.2.go bx⟩
        clear hb3 bx S0
        clear hk hr h1
        go_wp2_with fail
        refine (btold_true _ S1.out.2).mono ?_
        rintro e w4 ⟨rfl, hb4⟩
        have S2 : Hid (Below W0.heap.size W0 w4) := S1.out.1.trans (hb4.mono S1.out.1.size)
        clear hb4 S1
        go_wp2_with fail
        go_ret
        exact ⟨rfl, S2.out⟩
    · skip
      refine (rrate_no u w2 HU.out.1 hk).mono ?_
      rintro e w3 ⟨v3, rfl, hv3, hb3⟩
      obtain ⟨a1, n1, c1, a2, n2, c2, ev, _, _⟩ := hv3
      subst ev
      have bx := bel_go hb3 (bel_al (o := .cells #[.slice a1 n1 c1, .slice a2 n2 c2] 35) (bel_refl _))
      have S1 : Hid (Below W0.heap.size W0 (w3.alloc (.cells #[.slice a1 n1 c1, .slice a2 n2 c2] 35)) ∧ Tab (w3.alloc (.cells #[.slice a1 n1 c1, .slice a2 n2 c2] 35))) := ⟨S0.out.1.trans (bx.mono S0.out.1.size), S0.out.2.go bx⟩
      clear hb3 bx S0
      clear hk hr
      go_wp2_with fail
      refine (btold_true _ S1.out.2).mono ?_
      rintro e w4 ⟨rfl, hb4⟩
      have S2 : Hid (Below W0.heap.size W0 w4) := S1.out.1.trans (hb4.mono S1.out.1.size)
      clear hb4 S1
      go_wp2_with fail
      go_ret
      exact ⟨rfl, S2.out⟩
end Go.Proofs.YtdmkneojhnhomaaGreatDoor
