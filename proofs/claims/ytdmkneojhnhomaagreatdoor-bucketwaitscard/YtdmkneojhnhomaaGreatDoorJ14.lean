/- Contracts of the program's functions, part 14: own work, joined in build order. -/
import Derived.Test.YtdmkneojhnhomaaGreatDoorJ13
import Derived.Handy
import Derived.Deep.Slices
import Derived.Deep.Grids
import Derived.ChangeSlices
import Derived.ProofKit
import Derived.SizedLaws
import Derived.LaidEqlPtr
namespace Go.Proofs.YtdmkneojhnhomaaGreatDoor
open Go.RowKit
set_option maxRecDepth 100000
set_option linter.unusedVariables false
/-- What the bits of a number say: its whole part and its exponent. -/
def fm (u : Nat) : Nat := if u / 4503599627370496 = 0 then u % 4503599627370496 else u % 4503599627370496 + 4503599627370496
def fe (u : Nat) : Nat := u / 4503599627370496 - 1
def fN (u : Nat) : Nat := fm u * 2 ^ (fe u - 1074)
def fD (u : Nat) : Nat := 2 ^ (1074 - fe u)
/-- The number that is -0 is 0. -/
def nz (u : Nat) : Nat := if u = 9223372036854775808 then 0 else u
theorem fm_lt (u : Nat) : fm u < 2 ^ 53 := by unfold fm; split <;> omega
theorem fe_le {u : Nat} (h : u < 9218868437227405312) : fe u ≤ 2045 := by unfold fe; omega
theorem two_lt {a b : Nat} (h : a < b) : 2 ^ a < 2 ^ b := Nat.pow_lt_pow_right (by omega) h
theorem two_P {a n : Nat} (h : a < 64 * n) : 2 ^ a < P n := by
  rw [P_two]
  exact two_lt h
theorem fN_gen {m e n : Nat} (hm : m < 2 ^ 53) (he : 53 + e ≤ 64 * n) : m * 2 ^ e < P n := by
  rw [P_two]
  refine Nat.lt_of_lt_of_le (Nat.mul_lt_mul_of_pos_right hm (Nat.two_pow_pos e)) ?_
  rw [← Nat.pow_add]
  exact Nat.pow_le_pow_right (by omega) he
theorem fN_lt {u : Nat} (h : u < 9218868437227405312) : fN u < P 16 := fN_gen (fm_lt u) (by have := fe_le h; omega)
theorem fD_lt (u : Nat) : fD u < P 17 := two_P (by omega)
theorem fD_pos (u : Nat) : 0 < fD u := Nat.two_pow_pos _
theorem f64bits (u : Nat) (w : World) : (callFunc 36 #[.float .f64 u]).run Tryz.prog w = .ok (.value (.int .u64 (u : Int))) w := by
  rw [run_callFunc_extern Tryz.func36 (by kernel_rfl) (by kernel_rfl) (by kernel_rfl) (e := Extern.MathFloatBits.float64bits) (by kernel_rfl)]
  rfl
theorem f64frombits (u : Nat) (w : World) : (callFunc 35 #[.int .u64 (u : Int)]).run Tryz.prog w = .ok (.value (.float .f64 u)) w := by
  rw [run_callFunc_extern Tryz.func35 (by kernel_rfl) (by kernel_rfl) (by kernel_rfl) (e := Extern.MathFloatBits.float64frombits) (by kernel_rfl)]
  rfl
set_option maxHeartbeats 400000 in
theorem bits_any (u : Nat) (w : World) : Calls Tryz.prog 12 #[.float .f64 u] w fun e w' => e = .returned (.int .u64 (u : Int)) ∧ w' = w := by
  have h1 := f64bits u
  go_enter Tryz.func12, Tryz.ntmps12
  go_wp2_with fail
  go_ret
  exact ⟨rfl, rfl⟩
set_option maxHeartbeats 400000 in
theorem float_any (u : Nat) (w : World) : Calls Tryz.prog 10 #[.int .u64 (u : Int)] w fun e w' => e = .returned (.float .f64 u) ∧ w' = w := by
  have h1 := f64frombits u
  go_enter Tryz.func10, Tryz.ntmps10
  go_wp2_with fail
  go_ret
  exact ⟨rfl, rfl⟩
/-- What FromFloat takes. -/
def isF (u : Nat) : Prop := u = 9223372036854775808 ∨ u < 9218868437227405312
theorem low_fc {N D n : Nat} (hD : 0 < D) (h1 : N < P n) (h2 : D < P n) : Fc (N / Nat.gcd N D) (D / Nat.gcd N D) N D n := by
  have := low_terms N D hD
  exact ⟨this.1, this.2.2, hD, this.2.1, Nat.lt_of_le_of_lt (Nat.div_le_self _ _) h1, Nat.lt_of_le_of_lt (Nat.div_le_self _ _) h2⟩
set_option maxHeartbeats 4000000 in
theorem fromFloat_no (u : Nat) (w : World) (h : ¬ isF u) (hu : u < 18446744073709551616) : Calls Tryz.prog 59 #[.float .f64 u] w (MakesRB w 0 1 false) := by
  have a1 : ¬ u = 9223372036854775808 := fun e => h (.inl e)
  have a2 : ¬ u < 9218868437227405312 := fun e => h (.inr e)
  have d1 : decide (u = 9223372036854775808) = false := decide_eq_false a1
  have d1' : ((u : Int) == 9223372036854775808) = false := by simp; omega
  have d2 : decide (9218868437227405312 ≤ u) = true := decide_eq_true (by omega)
  have d2' : decide ((9218868437227405312 : Int) ≤ (u : Int)) = true := decide_eq_true (by omega)
  clear h a1 a2
  go_enter Tryz.func59, Tryz.ntmps59
  go_wp2_with fail
  refine (bits_any u _).mono ?_
  rintro e w1 ⟨rfl, rfl⟩
  go_wp2_with fail
  exact bodyPost_ret (v := .tuple #[.agg #[.slice none 0 0, .slice none 0 0], .bool false]) (by simp [results, Tryz.results59, go_sem]) rfl ⟨_, rfl, rt_zero _, bel_al (bel_refl w)⟩
set_option maxHeartbeats 4000000 in
theorem fromFloat_zero (w : World) : Calls Tryz.prog 59 #[.float .f64 9223372036854775808] w (MakesRB w 0 1 true) := by
  go_enter Tryz.func59, Tryz.ntmps59
  go_wp2_with fail
  refine (bits_any 9223372036854775808 _).mono ?_
  rintro e w1 ⟨rfl, rfl⟩
  go_wp2_with fail
  exact bodyPost_ret (v := .tuple #[.agg #[.slice none 0 0, .slice none 0 0], .bool true]) (by simp [results, Tryz.results59, go_sem]) rfl ⟨_, rfl, rt_zero _, bel_al (bel_refl w)⟩
theorem inUnits_at (v u : Value) (m f : Nat) (s : Int) (w : World) (h : IsNat w v m) (k : IsNat w u 1) (hm : Fits m) (hf : f ≤ 2045) (hs : s = 1074 - (f : Int)) :
    Calls Tryz.prog 90 #[v, u, .int .i64 s] w (Makes2N w (m * 2 ^ (f - 1074)) (2 ^ (1074 - f))) := by
  by_cases h1 : 1074 < f
  · have := inUnits_neg v u m 1 (f - 1074) s w h k hm (by omega) (by omega) (by omega)
    rw [show 1074 - f = 0 by omega]
    exact this
  · have := inUnits_pos v u m 1 (1074 - f) s w h k (fits_P (n := 1) (by rw [P_one]; omega) (by omega)) (by omega) (by omega)
    rw [show f - 1074 = 0 by omega, Nat.pow_zero, Nat.mul_one]
    rw [Nat.one_mul] at this
    exact this
set_option maxHeartbeats 4000000 in
theorem fromFloat_yes (u : Nat) (w : World) (h : u < 9218868437227405312) (hT : Tab w) : Calls Tryz.prog 59 #[.float .f64 u] w (MakesRB w (fN u / Nat.gcd (fN u) (fD u)) (fD u / Nat.gcd (fN u) (fD u)) true) := by
  have d1 : decide (u = 9223372036854775808) = false := decide_eq_false (by omega)
  have d1' : ((u : Int) == 9223372036854775808) = false := by simp; omega
  have d2 : decide (9218868437227405312 ≤ u) = false := decide_eq_false (by omega)
  have d2' : decide ((9218868437227405312 : Int) ≤ (u : Int)) = false := decide_eq_false (by omega)
  have HT : Hid (Tab w ∧ u < 9218868437227405312) := ⟨hT, h⟩
  have S1 : Hid _ := (sx_start w).box (.slice none 0 0) (.slice none 0 0) 46 _ rfl
  have f6 : (w.alloc (.cells #[.slice none 0 0, .slice none 0 0] 46)).frozen? ⟨w.heap.size, 0, none⟩ = false := by simp [go_sem]
  have f7 : (w.alloc (.cells #[.slice none 0 0, .slice none 0 0] 46)).frozen? ⟨w.heap.size, 1, none⟩ = false := by simp [go_sem]
  have FZ : Hid _ := And.intro f6 f7
  obtain ⟨m0, e0⟩ : ∃ m0 : Nat, m0 = u % 4503599627370496 := ⟨_, rfl⟩
  obtain ⟨x0, ex⟩ : ∃ x0 : Nat, x0 = u / 4503599627370496 := ⟨_, rfl⟩
  have r1 : (u : Int) % 4503599627370496 = (m0 : Int) := by omega
  have r2 : (u : Int) / 4503599627370496 = (x0 : Int) := by omega
  have r3 : IntKind.i64.wrap (x0 : Int) = (x0 : Int) := by rw [IntKind.wrap_i64]; omega
  have hfm : fm u = if x0 = 0 then m0 else m0 + 4503599627370496 := by unfold fm; rw [← e0, ← ex]
  have hfe : fe u = x0 - 1 := by unfold fe; rw [← ex]
  have sN : RS (fN u) := ⟨P_up (fN_lt h) (by omega)⟩
  have sD : RS (fD u) := ⟨P_up (fD_lt u) (by omega)⟩
  have hm0 : m0 < 4503599627370496 := by omega
  have hx0 : x0 ≤ 2046 := by omega
  clear hT f6 f7 e0 ex
  go_enter Tryz.func59, Tryz.ntmps59
  go_wp2_with fail
  refine (bits_any u _).mono ?_
  rintro e w1 ⟨rfl, rfl⟩
  clear h
  by_cases h0 : 0 < x0
  · obtain ⟨m, em⟩ : ∃ m : Nat, m = m0 + 4503599627370496 := ⟨_, rfl⟩
    obtain ⟨f, ef⟩ : ∃ f : Nat, f = x0 - 1 := ⟨_, rfl⟩
    have r4 : (m0 : Int) + 4503599627370496 = (m : Int) := by omega
    have r5 : wrap64 ((x0 : Int) - 1) = (f : Int) := by rw [IntWalk.wrap64_in _ ⟨by omega, by omega⟩]; omega
    obtain ⟨s, es⟩ : ∃ s : Int, s = -1074 + (f : Int) := ⟨_, rfl⟩
    have r6 : wrap64 (-1074 + (f : Int)) = s := by rw [IntWalk.wrap64_in _ ⟨by omega, by omega⟩]; omega
    obtain ⟨s2, es2⟩ : ∃ s2 : Int, s2 = -s := ⟨_, rfl⟩
    have r7 : wrap64 (-s) = s2 := by rw [IntWalk.wrap64_in _ ⟨by omega, by omega⟩]; omega
    have r8 : IntKind.i64.wrap (-s) = s2 := by rw [IntKind.wrap_i64]; omega
    have eN : m * 2 ^ (f - 1074) = fN u := by unfold fN; rw [hfm, hfe, if_neg (by omega), ← em, ← ef]
    have eD : 2 ^ (1074 - f) = fD u := by unfold fD; rw [hfe, ← ef]
    have HF : Hid (m < 9007199254740992 ∧ f ≤ 2045 ∧ s2 = 1074 - (f : Int) ∧ (m * 2 ^ (f - 1074) = fN u ∧ 2 ^ (1074 - f) = fD u) ∧ RS (m * 2 ^ (f - 1074)) ∧ RS (2 ^ (1074 - f))) := ⟨by omega, by omega, by omega, ⟨eN, eD⟩, by rw [eN]; exact sN, by rw [eD]; exact sD⟩
    clear em ef es es2 eN eD hfm hfe sN sD hm0 hx0
    go_wp2_with fail
    refine (of_any m _ (by have := HF.out; omega)).mono ?_
    rintro e w2 ⟨v2, rfl, hv2, hb2⟩
    have FZ2 : Hid (w2.frozen? ⟨w.heap.size, 0, none⟩ = false ∧ w2.frozen? ⟨w.heap.size, 1, none⟩ = false) := ⟨(hb2.frozen (World.block_lt_of_cell? _ _ (S1.out.cel w.heap.size 0 (.slice none 0 0)))).trans FZ.out.1, (hb2.frozen (World.block_lt_of_cell? _ _ (S1.out.cel w.heap.size 1 (.slice none 0 0)))).trans FZ.out.2⟩
    have S2 : Hid _ := (S1.out.go hb2).addN hv2
    clear hv2 hb2 S1
    go_wp2_with fail
    refine (of_any 1 _ (by omega)).mono ?_
    rintro e w3 ⟨v3, rfl, hv3, hb3⟩
    have FZ3 : Hid (w3.frozen? ⟨w.heap.size, 0, none⟩ = false ∧ w3.frozen? ⟨w.heap.size, 1, none⟩ = false) := ⟨(hb3.frozen (World.block_lt_of_cell? _ _ (S2.out.cel w.heap.size 0 (.slice none 0 0)))).trans FZ2.out.1, (hb3.frozen (World.block_lt_of_cell? _ _ (S2.out.cel w.heap.size 1 (.slice none 0 0)))).trans FZ2.out.2⟩
    have S3 : Hid _ := (S2.out.go hb3).addN hv3
    clear hv3 hb3 S2
    go_wp2_with fail
    refine (inUnits_at v2 v3 m f _ _ (S3.out.at v2 m) (S3.out.at v3 1) (fits_P (n := 1) (by rw [P_one]; have := HF.out; omega) (by omega)) (by have := HF.out; omega) HF.out.2.2.1).mono ?_
    rintro e w4 ⟨v4, v5, rfl, hv4, hv5, hb4⟩
    have FZ4 : Hid (w4.frozen? ⟨w.heap.size, 0, none⟩ = false ∧ w4.frozen? ⟨w.heap.size, 1, none⟩ = false) := ⟨(hb4.frozen (World.block_lt_of_cell? _ _ (S3.out.cel w.heap.size 0 (.slice none 0 0)))).trans FZ3.out.1, (hb4.frozen (World.block_lt_of_cell? _ _ (S3.out.cel w.heap.size 1 (.slice none 0 0)))).trans FZ3.out.2⟩
    have S4 : Hid _ := ((S3.out.go hb4).addN hv4).addN hv5
    clear hv4 hv5 hb4 S3
    go_wp2_with fail
    refine (from_any v4 v5 _ _ w4 (S4.out.at v4 (m * 2 ^ (f - 1074))) (S4.out.at v5 (2 ^ (1074 - f))) HF.out.2.2.2.2.1 HF.out.2.2.2.2.2 (Nat.two_pow_pos _) (HT.out.1.go S4.out.bel)).mono ?_
    rintro e w5 ⟨v6, rfl, hv, hb⟩
    obtain ⟨a6, n6, k6, a7, n7, k7, ev, _, _⟩ := hv.raw
    subst ev
    rw [HF.out.2.2.2.1.1, HF.out.2.2.2.1.2] at hv
    have z0 := cell_later hb (S4.out.cel w.heap.size 0 (.slice none 0 0))
    have z1 := cell_later hb (S4.out.cel w.heap.size 1 (.slice none 0 0))
    have u0 : w5.frozen? ⟨w.heap.size, 0, none⟩ = false := (hb.frozen (World.block_lt_of_cell? _ _ (S4.out.cel w.heap.size 0 (.slice none 0 0)))).trans FZ4.out.1
    have u1 : w5.frozen? ⟨w.heap.size, 1, none⟩ = false := (hb.frozen (World.block_lt_of_cell? _ _ (S4.out.cel w.heap.size 1 (.slice none 0 0)))).trans FZ4.out.2
    have Z : Hid _ := rat_put (v := .slice a6 n6 k6) (u := .slice a7 n7 k7) z0 z1 hv (bel_go S4.out.bel hb) (Nat.le_refl _)
    clear hv hb S4
    go_wp2_with fail
    exact bodyPost_ret (v := .tuple #[.agg #[.slice a6 n6 k6, .slice a7 n7 k7], .bool true]) (by simp [results, Tryz.results59, go_sem, z0, z1]) rfl ⟨_, rfl, Z.out.1, Z.out.2⟩
  · have x00 : x0 = 0 := by omega
    obtain ⟨f, ef⟩ : ∃ f : Nat, f = 0 := ⟨_, rfl⟩
    have eN : m0 * 2 ^ (f - 1074) = fN u := by unfold fN; rw [hfm, hfe, if_pos x00, x00, ef]
    have eD : 2 ^ (1074 - f) = fD u := by unfold fD; rw [hfe, show x0 - 1 = f by omega]
    have HF : Hid (m0 < 9007199254740992 ∧ f ≤ 2045 ∧ (1074 : Int) = 1074 - (f : Int) ∧ (m0 * 2 ^ (f - 1074) = fN u ∧ 2 ^ (1074 - f) = fD u) ∧ RS (m0 * 2 ^ (f - 1074)) ∧ RS (2 ^ (1074 - f))) := ⟨by omega, by omega, by omega, ⟨eN, eD⟩, by rw [eN]; exact sN, by rw [eD]; exact sD⟩
    clear ef x00 eN eD hfm hfe sN sD hm0 hx0
    go_wp2_with fail
    refine (of_any m0 _ (by have := HF.out; omega)).mono ?_
    rintro e w2 ⟨v2, rfl, hv2, hb2⟩
    have FZ2 : Hid (w2.frozen? ⟨w.heap.size, 0, none⟩ = false ∧ w2.frozen? ⟨w.heap.size, 1, none⟩ = false) := ⟨(hb2.frozen (World.block_lt_of_cell? _ _ (S1.out.cel w.heap.size 0 (.slice none 0 0)))).trans FZ.out.1, (hb2.frozen (World.block_lt_of_cell? _ _ (S1.out.cel w.heap.size 1 (.slice none 0 0)))).trans FZ.out.2⟩
    have S2 : Hid _ := (S1.out.go hb2).addN hv2
    clear hv2 hb2 S1
    go_wp2_with fail
    refine (of_any 1 _ (by omega)).mono ?_
    rintro e w3 ⟨v3, rfl, hv3, hb3⟩
    have FZ3 : Hid (w3.frozen? ⟨w.heap.size, 0, none⟩ = false ∧ w3.frozen? ⟨w.heap.size, 1, none⟩ = false) := ⟨(hb3.frozen (World.block_lt_of_cell? _ _ (S2.out.cel w.heap.size 0 (.slice none 0 0)))).trans FZ2.out.1, (hb3.frozen (World.block_lt_of_cell? _ _ (S2.out.cel w.heap.size 1 (.slice none 0 0)))).trans FZ2.out.2⟩
    have S3 : Hid _ := (S2.out.go hb3).addN hv3
    clear hv3 hb3 S2
    go_wp2_with fail
    refine (inUnits_at v2 v3 m0 f _ _ (S3.out.at v2 m0) (S3.out.at v3 1) (fits_P (n := 1) (by rw [P_one]; have := HF.out; omega) (by omega)) (by have := HF.out; omega) HF.out.2.2.1).mono ?_
    rintro e w4 ⟨v4, v5, rfl, hv4, hv5, hb4⟩
    have FZ4 : Hid (w4.frozen? ⟨w.heap.size, 0, none⟩ = false ∧ w4.frozen? ⟨w.heap.size, 1, none⟩ = false) := ⟨(hb4.frozen (World.block_lt_of_cell? _ _ (S3.out.cel w.heap.size 0 (.slice none 0 0)))).trans FZ3.out.1, (hb4.frozen (World.block_lt_of_cell? _ _ (S3.out.cel w.heap.size 1 (.slice none 0 0)))).trans FZ3.out.2⟩
    have S4 : Hid _ := ((S3.out.go hb4).addN hv4).addN hv5
    clear hv4 hv5 hb4 S3
    go_wp2_with fail
    refine (from_any v4 v5 _ _ w4 (S4.out.at v4 (m0 * 2 ^ (f - 1074))) (S4.out.at v5 (2 ^ (1074 - f))) HF.out.2.2.2.2.1 HF.out.2.2.2.2.2 (Nat.two_pow_pos _) (HT.out.1.go S4.out.bel)).mono ?_
    rintro e w5 ⟨v6, rfl, hv, hb⟩
    obtain ⟨a6, n6, k6, a7, n7, k7, ev, _, _⟩ := hv.raw
    subst ev
    rw [HF.out.2.2.2.1.1, HF.out.2.2.2.1.2] at hv
    have z0 := cell_later hb (S4.out.cel w.heap.size 0 (.slice none 0 0))
    have z1 := cell_later hb (S4.out.cel w.heap.size 1 (.slice none 0 0))
    have u0 : w5.frozen? ⟨w.heap.size, 0, none⟩ = false := (hb.frozen (World.block_lt_of_cell? _ _ (S4.out.cel w.heap.size 0 (.slice none 0 0)))).trans FZ4.out.1
    have u1 : w5.frozen? ⟨w.heap.size, 1, none⟩ = false := (hb.frozen (World.block_lt_of_cell? _ _ (S4.out.cel w.heap.size 1 (.slice none 0 0)))).trans FZ4.out.2
    have Z : Hid _ := rat_put (v := .slice a6 n6 k6) (u := .slice a7 n7 k7) z0 z1 hv (bel_go S4.out.bel hb) (Nat.le_refl _)
    clear hv hb S4
    go_wp2_with fail
    exact bodyPost_ret (v := .tuple #[.agg #[.slice a6 n6 k6, .slice a7 n7 k7], .bool true]) (by simp [results, Tryz.results59, go_sem, z0, z1]) rfl ⟨_, rfl, Z.out.1, Z.out.2⟩
end Go.Proofs.YtdmkneojhnhomaaGreatDoor
namespace Go.Proofs.YtdmkneojhnhomaaGreatDoor
open Go.RowKit
set_option maxRecDepth 100000
set_option linter.unusedVariables false
theorem from_nz (u : Nat) (h : isF u) : ∃ A C, Fc A C (fN (nz u)) (fD (nz u)) 17 ∧ ∀ w, Tab w → Calls Tryz.prog 59 #[.float .f64 u] w (MakesRB w A C true) := by
  by_cases e : u = 9223372036854775808
  · have e0 : nz u = 0 := if_pos e
    have e1 : fN 0 = 0 := by
      have : fm 0 = 0 := by decide
      unfold fN
      rw [this, Nat.zero_mul]
    refine ⟨0, 1, ⟨Nat.gcd_one_right _, by omega, fD_pos _, ?_, P_pos _, P_lt (by omega : 0 < 17)⟩, fun w _ => ?_⟩
    · rw [e0, e1, Nat.zero_mul, Nat.zero_mul]
    · rw [e]
      exact fromFloat_zero w
  · have h1 : u < 9218868437227405312 := h.resolve_left e
    have e0 : nz u = u := if_neg e
    rw [e0]
    exact ⟨_, _, low_fc (fD_pos u) (P_up (fN_lt h1) (by omega)) (fD_lt u), fun w hT => fromFloat_yes u w h1 hT⟩
theorem heap_new (w : World) (o : Obj) : (w.alloc o).heap[w.heap.size]? = some o := by
  show (w.heap.push o)[w.heap.size]? = some o
  simp
/-- A number is above the greatest rate. -/
def gtM (u : Nat) : Bool := FloatKind.f64.format.order u 4697254411347427328 == some .gt
/-- A rate's parts. -/
def rP (u per : Nat) : Nat := fN (nz u) / Nat.gcd (fN (nz u)) (fD (nz u) * per)
def rQ (u per : Nat) : Nat := fD (nz u) * per / Nat.gcd (fN (nz u)) (fD (nz u) * per)
theorem nz_lt {u : Nat} (h : isF u) : nz u < 9218868437227405312 := by
  unfold nz
  rcases h with e | e
  · rw [if_pos e]
    omega
  · split <;> omega
theorem rate_fc {u per : Nat} (h : isF u) (h1 : 1 ≤ per) (h2 : per ≤ 1073741824) : Fc (rP u per) (rQ u per) (fN (nz u)) (fD (nz u) * per) 18 := by
  refine low_fc (Nat.mul_pos (fD_pos _) (by omega)) (P_up (fN_lt (nz_lt h)) (by omega)) ?_
  have h3 : fD (nz u) * per < P 17 * P 1 := Nat.mul_lt_mul'' (fD_lt _) (by rw [P_one]; omega)
  rw [← P_add] at h3
  exact h3
theorem rP_lt {u per : Nat} (h : isF u) : rP u per < P 17 := Nat.lt_of_le_of_lt (Nat.div_le_self _ _) (P_up (fN_lt (nz_lt h)) (by omega))
set_option maxHeartbeats 4000000 in
theorem aTick_yes (u per : Nat) (w : World) (hg : gtM u = false) (h1 : 1 ≤ per) (h2 : per ≤ 1073741824) (hF : isF u) (hT : Tab w) : Calls Tryz.prog 33 #[.float .f64 u, .int .i64 (per : Int)] w (MakesRB w (rP u per) (rQ u per) true) := by
  obtain ⟨A, C, fa, fr⟩ := from_nz u hF
  obtain ⟨A2, C2, fb, dv⟩ := fa.divInt (by omega) (k := per) (by omega) (by omega)
  obtain ⟨e1, e2⟩ := fb.one (rate_fc hF h1 h2)
  subst e1 e2
  have FR : Hid (∀ w, Tab w → Calls Tryz.prog 59 #[.float .f64 u] w (MakesRB w A C true)) := fr
  have DV : Hid (∀ v w, Rt w v A C → Tab w → Calls Tryz.prog 60 #[v, .int .i64 (per : Int)] w (MakesRB w (rP u per) (rQ u per) true)) := dv
  have HT : Hid (Tab w) := hT
  have S1 : Hid _ := (sx_start w).box (.slice none 0 0) (.slice none 0 0) 46 _ rfl
  have f6 : (w.alloc (.cells #[.slice none 0 0, .slice none 0 0] 46)).frozen? ⟨w.heap.size, 0, none⟩ = false := by simp [go_sem]
  have f7 : (w.alloc (.cells #[.slice none 0 0, .slice none 0 0] 46)).frozen? ⟨w.heap.size, 1, none⟩ = false := by simp [go_sem]
  have FZ : Hid _ := And.intro f6 f7
  have g1 : (FloatKind.f64.format.order u 4697254411347427328 == some .gt) = false := hg
  have d1 : decide ((per : Int) < 1) = false := decide_eq_false (by omega)
  have d2 : decide ((1073741824 : Int) < (per : Int)) = false := decide_eq_false (by omega)
  clear fa fr fb dv hT f6 f7 hg hF
  go_enter Tryz.func33, Tryz.ntmps33
  go_wp2_with fail
  refine (FR.out _ (HT.out.go S1.out.bel)).mono ?_
  rintro e w7 ⟨v7, rfl, hv, hb⟩
  obtain ⟨a7, n7, c7, a8, n8, c8, ev, _, _⟩ := hv.raw
  subst ev
  have hbb := bel_go hb (bel_al (o := .cells #[.slice a7 n7 c7, .slice a8 n8 c8] 46) (bel_refl _))
  have FZ : Hid ((w7.alloc (.cells #[.slice a7 n7 c7, .slice a8 n8 c8] 46)).frozen? ⟨w.heap.size, 0, none⟩ = false ∧ (w7.alloc (.cells #[.slice a7 n7 c7, .slice a8 n8 c8] 46)).frozen? ⟨w.heap.size, 1, none⟩ = false) := ⟨(hbb.frozen (World.block_lt_of_cell? _ _ (S1.out.cel w.heap.size 0 (.slice none 0 0)))).trans FZ.out.1, (hbb.frozen (World.block_lt_of_cell? _ _ (S1.out.cel w.heap.size 1 (.slice none 0 0)))).trans FZ.out.2⟩
  have S3 : Hid _ := ((S1.out.go hb).addF hv).box (.slice a7 n7 c7) (.slice a8 n8 c8) 46 _ rfl
  clear hv hb hbb S1
  go_wp2_with fail
  refine (DV.out _ _ (S3.out.fr (.agg #[.slice a7 n7 c7, .slice a8 n8 c8]) A C) (HT.out.go S3.out.bel)).mono ?_
  rintro e w13 ⟨v13, rfl, hv, hb⟩
  obtain ⟨p7, q7, r7, p8, q8, r8, ev, _, _⟩ := hv.raw
  subst ev
  have x0 := cell_later hb (S3.out.cel w.heap.size 0 (.slice none 0 0))
  have x1 := cell_later hb (S3.out.cel w.heap.size 1 (.slice none 0 0))
  have f0 : w13.frozen? ⟨w.heap.size, 0, none⟩ = false := (hb.frozen (World.block_lt_of_cell? _ _ (S3.out.cel w.heap.size 0 (.slice none 0 0)))).trans FZ.out.1
  have f1 : w13.frozen? ⟨w.heap.size, 1, none⟩ = false := (hb.frozen (World.block_lt_of_cell? _ _ (S3.out.cel w.heap.size 1 (.slice none 0 0)))).trans FZ.out.2
  have ZZ : Hid _ := rat_put (w0 := w) (v := .slice p7 q7 r7) (u := .slice p8 q8 r8) x0 x1 hv (bel_go S3.out.bel hb) (Nat.le_refl _)
  clear hv hb S3 FZ
  go_wp2_with fail
  exact bodyPost_ret (v := .tuple #[.agg #[.slice p7 q7 r7, .slice p8 q8 r8], .bool true]) (by simp [results, Tryz.results33, go_sem, x0, x1]) rfl ⟨_, rfl, ZZ.out.1, ZZ.out.2⟩
/-- A rate that may be. -/
def rateOk (u : Nat) (per : Int) : Prop := gtM u = false ∧ 1 ≤ per ∧ per ≤ 1073741824 ∧ isF u
set_option maxHeartbeats 4000000 in
theorem aTick_no (u : Nat) (per : Int) (w : World) (h : ¬ rateOk u per) (hu : u < 18446744073709551616) : Calls Tryz.prog 33 #[.float .f64 u, .int .i64 per] w (MakesRB w 0 1 false) := by
  by_cases hg : gtM u = true
  · have g1 : (FloatKind.f64.format.order u 4697254411347427328 == some .gt) = true := hg
    clear hg h
    go_enter Tryz.func33, Tryz.ntmps33
    go_wp2_with fail
    exact bodyPost_ret (v := .tuple #[.agg #[.slice none 0 0, .slice none 0 0], .bool false]) (by simp [results, Tryz.results33, go_sem]) rfl ⟨_, rfl, rt_zero _, bel_al (bel_refl w)⟩
  · have g0 : gtM u = false := by simpa using hg
    have g1 : (FloatKind.f64.format.order u 4697254411347427328 == some .gt) = false := g0
    by_cases h1 : per < 1
    · have d1 : decide (per < 1) = true := decide_eq_true h1
      clear hg h g0 h1
      go_enter Tryz.func33, Tryz.ntmps33
      go_wp2_with fail
      exact bodyPost_ret (v := .tuple #[.agg #[.slice none 0 0, .slice none 0 0], .bool false]) (by simp [results, Tryz.results33, go_sem]) rfl ⟨_, rfl, rt_zero _, bel_al (bel_refl w)⟩
    · have d1 : decide (per < 1) = false := decide_eq_false h1
      by_cases h2 : 1073741824 < per
      · have d2 : decide ((1073741824 : Int) < per) = true := decide_eq_true h2
        clear hg h g0 h1 h2
        go_enter Tryz.func33, Tryz.ntmps33
        go_wp2_with fail
        exact bodyPost_ret (v := .tuple #[.agg #[.slice none 0 0, .slice none 0 0], .bool false]) (by simp [results, Tryz.results33, go_sem]) rfl ⟨_, rfl, rt_zero _, bel_al (bel_refl w)⟩
      · have d2 : decide ((1073741824 : Int) < per) = false := decide_eq_false h2
        have hF : ¬ isF u := fun e => h ⟨g0, by omega, by omega, e⟩
        have ba : Hid (Below w.heap.size w (w.alloc (.cells #[.slice none 0 0, .slice none 0 0] 46))) := bel_al (bel_refl w)
        have x0 : (w.alloc (.cells #[.slice none 0 0, .slice none 0 0] 46)).cell? ⟨w.heap.size, 0, none⟩ = some (.slice none 0 0) := by simp [go_sem]
        have x1 : (w.alloc (.cells #[.slice none 0 0, .slice none 0 0] 46)).cell? ⟨w.heap.size, 1, none⟩ = some (.slice none 0 0) := by simp [go_sem]
        have f6 : (w.alloc (.cells #[.slice none 0 0, .slice none 0 0] 46)).frozen? ⟨w.heap.size, 0, none⟩ = false := by simp [go_sem]
        have f7 : (w.alloc (.cells #[.slice none 0 0, .slice none 0 0] 46)).frozen? ⟨w.heap.size, 1, none⟩ = false := by simp [go_sem]
        have FN : Hid (∀ w, Calls Tryz.prog 59 #[.float .f64 u] w (MakesRB w 0 1 false)) := fun w => fromFloat_no u w hF hu
        clear hg h g0 h1 h2 hF
        go_enter Tryz.func33, Tryz.ntmps33
        go_wp2_with fail
        refine (FN.out _).mono ?_
        rintro e w7 ⟨v7, rfl, hv, hb⟩
        obtain ⟨a7, n7, c7, a8, n8, c8, ev, _, _⟩ := hv.raw
        subst ev
        have hbb := bel_go hb (bel_al (o := .cells #[.slice a7 n7 c7, .slice a8 n8 c8] 46) (bel_refl _))
        have z0 := cell_later hbb x0
        have z1 := cell_later hbb x1
        have y0 := (hbb.frozen (World.block_lt_of_cell? _ _ x0)).trans f6
        have y1 := (hbb.frozen (World.block_lt_of_cell? _ _ x1)).trans f7
        have ZZ : Hid _ := rat_put (w0 := w) (v := .slice none 0 0) (u := .slice none 0 0) z0 z1 (rt_zero _) (bel_go ba.out hbb) (Nat.le_refl _)
        clear hv hb hbb x0 x1 f6 f7
        go_wp2_with fail
        exact bodyPost_ret (v := .tuple #[.agg #[.slice none 0 0, .slice none 0 0], .bool false]) (by simp [results, Tryz.results33, go_sem, z0, z1]) rfl ⟨_, rfl, ZZ.out.1, ZZ.out.2⟩
/-- New tells an error. -/
def NewNo (w : World) (n : Int) (e : Ending) (w' : World) : Prop := e = .returned (.tuple #[.pointer none, .int .i64 n]) ∧ Below w.heap.size w w'
set_option maxHeartbeats 4000000 in
theorem bnew_burst (B : Int) (u : Nat) (per t : Int) (w : World) (h : B < 1 ∨ 1099511627776 < B) : Calls Tryz.prog 9 #[.int .i64 B, .float .f64 u, .int .i64 per, .int .i64 t] w (NewNo w 97) := by
  by_cases h1 : B < 1
  · have d1 : decide (B < 1) = true := decide_eq_true h1
    clear h h1
    go_enter Tryz.func9, Tryz.ntmps9
    go_wp2_with fail
    exact bodyPost_ret (v := .tuple #[.pointer none, .int .i64 97]) (by simp [results, Tryz.results9, go_sem]) rfl ⟨rfl, bel_refl w⟩
  · have d1 : decide (B < 1) = false := decide_eq_false h1
    have d2 : decide ((1099511627776 : Int) < B) = true := decide_eq_true (h.resolve_left h1)
    clear h h1
    go_enter Tryz.func9, Tryz.ntmps9
    go_wp2_with fail
    exact bodyPost_ret (v := .tuple #[.pointer none, .int .i64 97]) (by simp [results, Tryz.results9, go_sem]) rfl ⟨rfl, bel_refl w⟩
set_option maxHeartbeats 4000000 in
theorem bnew_rate (B : Int) (u : Nat) (per t : Int) (w : World) (h1 : 1 ≤ B) (h2 : B ≤ 1099511627776) (h : ¬ rateOk u per) (hu : u < 18446744073709551616) : Calls Tryz.prog 9 #[.int .i64 B, .float .f64 u, .int .i64 per, .int .i64 t] w (NewNo w 98) := by
  have d1 : decide (B < 1) = false := decide_eq_false (by omega)
  have d2 : decide ((1099511627776 : Int) < B) = false := decide_eq_false (by omega)
  have AN : Hid (∀ w, Calls Tryz.prog 33 #[.float .f64 u, .int .i64 per] w (MakesRB w 0 1 false)) := fun w => aTick_no u per w h hu
  clear h hu
  go_enter Tryz.func9, Tryz.ntmps9
  go_wp2_with fail
  refine (AN.out _).mono ?_
  rintro e w7 ⟨v7, rfl, hv, hb⟩
  obtain ⟨a7, n7, c7, a8, n8, c8, ev, _, _⟩ := hv.raw
  subst ev
  have B7 : Hid (Below w.heap.size w (w7.alloc (.cells #[.slice a7 n7 c7, .slice a8 n8 c8] 46))) := bel_al hb
  clear hv hb
  go_wp2_with fail
  exact bodyPost_ret (v := .tuple #[.pointer none, .int .i64 98]) (by simp [results, Tryz.results9, go_sem]) rfl ⟨rfl, B7.out⟩
set_option maxHeartbeats 4000000 in
theorem bnew_time (B : Int) (u per : Nat) (t : Int) (w : World) (h1 : 1 ≤ B) (h2 : B ≤ 1099511627776) (h : rateOk u (per : Int)) (ht : t < 0 ∨ 4611686018427387904 < t) (hT : Tab w) : Calls Tryz.prog 9 #[.int .i64 B, .float .f64 u, .int .i64 (per : Int), .int .i64 t] w (NewNo w 1) := by
  have d1 : decide (B < 1) = false := decide_eq_false (by omega)
  have d2 : decide ((1099511627776 : Int) < B) = false := decide_eq_false (by omega)
  have AN : Hid (∀ w, Tab w → Calls Tryz.prog 33 #[.float .f64 u, .int .i64 (per : Int)] w (MakesRB w (rP u per) (rQ u per) true)) := fun w hT => aTick_yes u per w h.1 (by have := h.2.1; omega) (by have := h.2.2.1; omega) h.2.2.2 hT
  have HT : Hid (Tab w) := hT
  clear h hT
  go_enter Tryz.func9, Tryz.ntmps9
  go_wp2_with fail
  refine (AN.out _ HT.out).mono ?_
  rintro e w7 ⟨v7, rfl, hv, hb⟩
  obtain ⟨a7, n7, c7, a8, n8, c8, ev, _, _⟩ := hv.raw
  subst ev
  have B7 : Hid (Below w.heap.size w (w7.alloc (.cells #[.slice a7 n7 c7, .slice a8 n8 c8] 46))) := bel_al hb
  clear hv hb
  by_cases h3 : t < 0
  · have d3 : decide (t < 0) = true := decide_eq_true h3
    clear ht h3
    go_wp2_with fail
    exact bodyPost_ret (v := .tuple #[.pointer none, .int .i64 1]) (by simp [results, Tryz.results9, go_sem]) rfl ⟨rfl, B7.out⟩
  · have d3 : decide (t < 0) = false := decide_eq_false h3
    have d4 : decide ((4611686018427387904 : Int) < t) = true := decide_eq_true (ht.resolve_left h3)
    clear ht h3
    go_wp2_with fail
    exact bodyPost_ret (v := .tuple #[.pointer none, .int .i64 1]) (by simp [results, Tryz.results9, go_sem]) rfl ⟨rfl, B7.out⟩
/-- New gives a bucket. -/
def NewYes (w : World) (T R D B : Nat) (e : Ending) (w' : World) : Prop := ∃ b, e = .returned (.tuple #[.pointer (some ⟨b, 0, none⟩), .int .i64 0]) ∧ w.heap.size ≤ b ∧ Bu w' b T 0 R D B ∧ Below w.heap.size w w'
set_option maxHeartbeats 4000000 in
theorem bnew_yes (B u per t : Nat) (w : World) (h1 : 1 ≤ B) (h2 : B ≤ 1099511627776) (h : rateOk u (per : Int)) (ht : t ≤ 4611686018427387904) (hT : Tab w) : Calls Tryz.prog 9 #[.int .i64 (B : Int), .float .f64 u, .int .i64 (per : Int), .int .i64 (t : Int)] w (NewYes w t (rP u per) (rQ u per) B) := by
  have d1 : decide ((B : Int) < 1) = false := decide_eq_false (by omega)
  have d2 : decide ((1099511627776 : Int) < (B : Int)) = false := decide_eq_false (by omega)
  have d3 : decide ((t : Int) < 0) = false := decide_eq_false (by omega)
  have d4 : decide ((4611686018427387904 : Int) < (t : Int)) = false := decide_eq_false (by omega)
  have AN : Hid (∀ w, Tab w → Calls Tryz.prog 33 #[.float .f64 u, .int .i64 (per : Int)] w (MakesRB w (rP u per) (rQ u per) true)) := fun w hT => aTick_yes u per w h.1 (by have := h.2.1; omega) (by have := h.2.2.1; omega) h.2.2.2 hT
  have rf := rate_fc h.2.2.2 (per := per) (by have := h.2.1; omega) (by have := h.2.2.1; omega)
  obtain ⟨R, eR⟩ : ∃ R, R = rP u per := ⟨_, rfl⟩
  obtain ⟨D, eD⟩ : ∃ D, D = rQ u per := ⟨_, rfl⟩
  have RL := rP_lt (per := per) h.2.2.2
  rw [← eR, ← eD] at rf AN ⊢
  rw [← eR] at RL
  have HR : Hid (Nat.gcd R D = 1 ∧ 0 < D ∧ D < P 18 ∧ R < P 17 ∧ 1 ≤ B ∧ B ≤ 1099511627776 ∧ t ≤ 4611686018427387904) := ⟨rf.low, rf.pos, rf.s2, RL, h1, h2, ht⟩
  have HT : Hid (Tab w) := hT
  clear h hT rf eR eD RL h1 h2
  go_enter Tryz.func9, Tryz.ntmps9
  go_wp2_with fail
  refine (AN.out _ HT.out).mono ?_
  rintro e w7 ⟨v7, rfl, hv, hb⟩
  obtain ⟨a7, n7, c7, a8, n8, c8, ev, _, _⟩ := hv.raw
  subst ev
  have S1 : Hid _ := (((sx_start w).go hb).addF hv).box (.slice a7 n7 c7) (.slice a8 n8 c8) 46 _ rfl
  clear hv hb
  go_wp2_with fail
  obtain ⟨w8, hw⟩ : ∃ w8, w8 = w7.alloc (.cells #[.slice a7 n7 c7, .slice a8 n8 c8] 46) := ⟨_, rfl⟩
  obtain ⟨g, hg⟩ : ∃ g, g = w7.heap.size := ⟨_, rfl⟩
  rw [← hw, ← hg] at S1
  rw [← hw, ← hg]
  clear hw hg
  have z0 := S1.out.cel g 0 (.slice a7 n7 c7)
  have z1 := S1.out.cel g 1 (.slice a8 n8 c8)
  go_region_held3 (fun w' => w'.cell? ⟨g, 0, none⟩ = some (.slice a7 n7 c7) ∧ w'.cell? ⟨g, 1, none⟩ = some (.slice a8 n8 c8)) (first | (simp [go_sem, *]; done) | (trace_state; fail))
    (first
      | (go_at_call 34; refine Calls.mono (whole_any B _ (by have := HR.out; omega) (HT.out.go (bel_go S1.out.bel (by first | exact bel_refl _ | exact bel_dr (bel_refl _))))) ?_; rintro e w9 ⟨v9, rfl, hv9, hb9⟩; have hb9 : Below w8.heap.size w8 w9 := (by first | exact hb9 | exact bel_undrew hb9); obtain ⟨a9, n9, c9, a10, n10, c10, ev, _, _⟩ := hv9.raw; subst ev; have S2 : Hid _ := (S1.out.go hb9).addF hv9; have z2 := S2.out.cel g 0 (.slice a7 n7 c7); have z3 := S2.out.cel g 1 (.slice a8 n8 c8); have lg : g < w9.heap.size := World.block_lt_of_cell? _ _ z2; have lg2 : ¬ g = w9.heap.size := (by omega); clear hv9 hb9))
  have ba := bel_al (o := (.cells #[.int .i64 (t : Int), .slice none 0 0, .slice none 0 0, .slice a9 n9 c9, .slice a10 n10 c10, .slice a7 n7 c7, .slice a8 n8 c8] 81)) (bel_refl w9)
  have hk : (w9.alloc (.cells #[.int .i64 (t : Int), .slice none 0 0, .slice none 0 0, .slice a9 n9 c9, .slice a10 n10 c10, .slice a7 n7 c7, .slice a8 n8 c8] 81)).heap[w9.heap.size]? = some (.cells #[.int .i64 (t : Int), .slice none 0 0, .slice none 0 0, .slice a9 n9 c9, .slice a10 n10 c10, .slice a7 n7 c7, .slice a8 n8 c8] 81) := heap_new _ _
  have ZB : Hid (w.heap.size ≤ w9.heap.size ∧ Bu (w9.alloc (.cells #[.int .i64 (t : Int), .slice none 0 0, .slice none 0 0, .slice a9 n9 c9, .slice a10 n10 c10, .slice a7 n7 c7, .slice a8 n8 c8] 81)) w9.heap.size t 0 R D B ∧ Below w.heap.size w (w9.alloc (.cells #[.int .i64 (t : Int), .slice none 0 0, .slice none 0 0, .slice a9 n9 c9, .slice a10 n10 c10, .slice a7 n7 c7, .slice a8 n8 c8] 81))) := by
    refine ⟨S2.out.bel.size, ⟨⟨⟨0, 1, _, _, _, _, _, _, hk, rt_zero _, ⟨by simp, by omega, HR.out.2.1, by rw [Nat.zero_mul, Nat.zero_mul], P_pos _, P_lt (by omega : 0 < 20)⟩, (S2.out.fr (.agg #[.slice a9 n9 c9, .slice a10 n10 c10]) B 1).mono ba, (S2.out.fr (.agg #[.slice a7 n7 c7, .slice a8 n8 c8]) R D).mono ba⟩, HR.out.2.2.2.2.2.2, ⟨HR.out.2.2.2.2.1, HR.out.2.2.2.2.2.1⟩, ⟨HR.out.2.1, HR.out.2.2.1⟩, HR.out.2.2.2.1, HR.out.1⟩, Nat.zero_le _⟩, bel_go S2.out.bel ba⟩
  clear ba hk S1 S2 z0 z1 z2 z3 lg lg2
  go_wp2_with fail
  exact bodyPost_ret (v := .tuple #[.pointer (some ⟨w9.heap.size, 0, none⟩), .int .i64 0]) (by simp [results, Tryz.results9, go_sem]) rfl ⟨_, rfl, ZB.out.1, ZB.out.2.1, ZB.out.2.2⟩
end Go.Proofs.YtdmkneojhnhomaaGreatDoor
namespace Go.Proofs.YtdmkneojhnhomaaGreatDoor
open Go.RowKit
set_option maxRecDepth 100000
set_option linter.unusedVariables false
/-- What few tells. -/
def fewN (n : Int) (m : Nat) : Nat := (if n < 0 then -(n + 1) else n).toNat % (m + 1)
theorem fewN_le (n : Int) (m : Nat) : fewN n m ≤ m := by
  have := Nat.mod_lt (if n < 0 then -(n + 1) else n).toNat (Nat.succ_pos m)
  unfold fewN
  rw [Nat.succ_eq_add_one] at this
  omega
set_option maxHeartbeats 1000000 in
theorem few_any (n : Int) (m : Nat) (w : World) (h1 : -9223372036854775808 ≤ n) (h2 : n ≤ 9223372036854775807) (hm : m ≤ 9223372036854775806) : Calls Tryz.prog 20 #[.int .i64 n, .int .i64 (m : Int)] w fun e w' => e = .returned (.int .i64 ((fewN n m : Nat) : Int)) ∧ w' = w := by
  obtain ⟨m1, em⟩ : ∃ m1 : Nat, m1 = m + 1 := ⟨_, rfl⟩
  have r1 : wrap64 ((m : Int) + 1) = (m1 : Int) := by rw [IntWalk.wrap64_in _ ⟨by omega, by omega⟩]; omega
  have hz : ¬ (m1 : Int) = 0 := by omega
  have hz2 : ¬ m1 = 0 := by omega
  by_cases h : n < 0
  · obtain ⟨k, ek⟩ : ∃ k : Nat, (k : Int) = -(n + 1) := ⟨(-(n + 1)).toNat, by omega⟩
    have d1 : decide (n < 0) = true := decide_eq_true h
    obtain ⟨n1, e1⟩ : ∃ n1 : Int, n1 = n + 1 := ⟨_, rfl⟩
    have r2 : wrap64 (n + 1) = n1 := by rw [IntWalk.wrap64_in _ ⟨by omega, by omega⟩]; omega
    have r3 : wrap64 (-n1) = (k : Int) := by rw [IntWalk.wrap64_in _ ⟨by omega, by omega⟩]; omega
    have r4 : IntKind.i64.wrap (-n1) = (k : Int) := by rw [IntKind.wrap_i64]; omega
    have HF : Hid (fewN n m = k % m1) := by
      show _ = _
      unfold fewN
      rw [if_pos h, ← ek, Int.toNat_natCast, ← em]
    clear h1 h2 hm em h ek e1
    go_enter Tryz.func20, Tryz.ntmps20
    go_wp2_with fail
    go_ret
    exact ⟨ret_int (by rw [HF.out]; rfl), rfl⟩
  · obtain ⟨k, rfl⟩ : ∃ k : Nat, n = (k : Int) := ⟨n.toNat, by omega⟩
    have d1 : decide ((k : Int) < 0) = false := decide_eq_false h
    have HF : Hid (fewN (k : Int) m = k % m1) := by
      show _ = _
      unfold fewN
      rw [if_neg h, Int.toNat_natCast, ← em]
    clear h1 hm em h
    go_enter Tryz.func20, Tryz.ntmps20
    go_wp2_with fail
    go_ret
    exact ⟨ret_int (by rw [HF.out]; rfl), rfl⟩
/-- The bits of a half. -/
def uHalf : Nat := 4602678819172646912
theorem half_ok (per : Int) (h1 : 1 ≤ per) (h2 : per ≤ 1073741824) : rateOk uHalf per := ⟨by decide +kernel, h1, h2, .inr (by decide)⟩
theorem half_one : rP uHalf 1 = 1 ∧ rQ uHalf 1 = 2 := by decide +kernel
theorem told_100 (b : Nat) (w : World) (h : Bu w b 100 0 1 2 10) (hT : Tab w) : Calls Tryz.prog 13 #[.pointer (some ⟨b, 0, none⟩), .int .i64 100] w fun e w' => ∃ v, e = .returned v ∧ Rt w' v 0 1 ∧ Bu w' b 100 0 1 2 10 ∧ Fb (fun x => x = b) w w' := by
  refine (bat_any b 100 0 1 2 10 100 w h hT).mono ?_
  rintro e w' ⟨v, p, q, rfl, hv, f, hB, hF⟩
  have e1 : atN 100 0 1 2 10 100 = 0 := by decide
  have e2 : atT 100 100 = 100 := by decide
  rw [e1] at f hB
  rw [e2] at hB
  obtain ⟨rfl, rfl⟩ := f.one (p' := 0) (q' := 1) (m := 20) ⟨by decide, by omega, by omega, by omega, P_pos _, P_lt (by omega : 0 < 20)⟩
  exact ⟨v, rfl, hv, hB, hF⟩
theorem told_103 (b : Nat) (w : World) (h : Bu w b 100 0 1 2 10) (hT : Tab w) : Calls Tryz.prog 13 #[.pointer (some ⟨b, 0, none⟩), .int .i64 103] w fun e w' => ∃ v, e = .returned v ∧ Rt w' v 3 2 ∧ Bu w' b 103 3 1 2 10 ∧ Fb (fun x => x = b) w w' := by
  refine (bat_any b 100 0 1 2 10 103 w h hT).mono ?_
  rintro e w' ⟨v, p, q, rfl, hv, f, hB, hF⟩
  have e1 : atN 100 0 1 2 10 103 = 3 := by decide
  have e2 : atT 100 103 = 103 := by decide
  rw [e1] at f hB
  rw [e2] at hB
  obtain ⟨rfl, rfl⟩ := f.one (p' := 3) (q' := 2) (m := 20) ⟨by decide, by omega, by omega, by omega, P_up (n := 1) (by rw [P_one]; omega) (by omega), P_up (n := 1) (by rw [P_one]; omega) (by omega)⟩
  exact ⟨v, rfl, hv, hB, hF⟩
theorem told_3 (b : Nat) (w : World) (h : Bu w b 103 3 1 2 10) (hT : Tab w) : Calls Tryz.prog 16 #[.pointer (some ⟨b, 0, none⟩), .int .i64 104, .int .i64 3] w fun e w' => e = .returned (.int .i64 80) ∧ Bu w' b 104 4 1 2 10 ∧ Fb (fun x => x = b) w w' := by
  refine (btake_any b 103 3 1 2 10 104 3 w h hT (by omega)).mono ?_
  rintro e w' ⟨rfl, hB, hF⟩
  have e1 : takeE (atN 103 3 1 2 10 104) 2 3 = 80 := by decide
  have e2 : takeN (atN 103 3 1 2 10 104) 2 3 = 4 := by decide
  have e3 : atT 103 104 = 104 := by decide
  rw [e2, e3] at hB
  exact ⟨by rw [e1], hB, hF⟩
theorem told_2 (b : Nat) (w : World) (h : Bu w b 104 4 1 2 10) (hT : Tab w) : Calls Tryz.prog 16 #[.pointer (some ⟨b, 0, none⟩), .int .i64 104, .int .i64 2] w fun e w' => e = .returned (.int .i64 0) ∧ Fb (fun x => x = b) w w' := by
  refine (btake_any b 104 4 1 2 10 104 2 w h hT (by omega)).mono ?_
  rintro e w' ⟨rfl, hB, hF⟩
  have e1 : takeE (atN 104 4 1 2 10 104) 2 2 = 0 := by decide
  exact ⟨by rw [e1], hF⟩
set_option maxHeartbeats 4000000 in
theorem btold_true (w : World) (hT : Tab w) : Calls Tryz.prog 8 #[] w fun e w' => e = .returned (.bool true) ∧ Below w.heap.size w w' := by
  have NW : Hid (∀ w, Tab w → Calls Tryz.prog 9 #[.int .i64 10, .float .f64 4602678819172646912, .int .i64 1, .int .i64 100] w (NewYes w 100 1 2 10)) := fun w hT => by
    have := bnew_yes 10 uHalf 1 100 w (by omega) (by omega) (half_ok _ (by omega) (by omega)) (by omega) hT
    rw [half_one.1, half_one.2] at this
    exact this
  have HT : Hid (Tab w) := hT
  clear hT
  go_enter Tryz.func8, Tryz.ntmps8
  go_wp2_with fail
  refine (NW.out _ HT.out).mono ?_
  rintro e w1 ⟨b, rfl, hb, hB, hb1⟩
  have Z0 : Hid (Bu w1 b 100 0 1 2 10 ∧ Tab w1 ∧ Below w.heap.size w w1 ∧ w.heap.size ≤ b) := ⟨hB, HT.out.go hb1, hb1, hb⟩
  clear hb hB hb1
  go_wp2_with fail
  refine (told_x _).mono ?_
  rintro e w2 ⟨v2, rfl, hv, hb2⟩
  have hv' := hv
  obtain ⟨a7, n7, c7, a8, n8, c8, ev, _, _⟩ := hv'
  subst ev
  have ba := bel_go hb2 (bel_al (o := .cells #[.slice a7 n7 c7, .slice a8 n8 c8] 35) (bel_refl _))
  have Z1 : Hid (Bu (w2.alloc (.cells #[.slice a7 n7 c7, .slice a8 n8 c8] 35)) b 100 0 1 2 10 ∧ Tab (w2.alloc (.cells #[.slice a7 n7 c7, .slice a8 n8 c8] 35)) ∧ Below w.heap.size w (w2.alloc (.cells #[.slice a7 n7 c7, .slice a8 n8 c8] 35)) ∧ w.heap.size ≤ b ∧ RRt (w2.alloc (.cells #[.slice a7 n7 c7, .slice a8 n8 c8] 35)) (.agg #[.slice a7 n7 c7, .slice a8 n8 c8]) 3 2 ∧ w2.heap.size ≠ b) := ⟨Z0.out.1.go ba, Z0.out.2.1.go ba, bel_go Z0.out.2.2.1 ba, Z0.out.2.2.2, hv.mono (bel_al (bel_refl _)), by have := (Z0.out.1.go hb2).lt; omega⟩
  clear hv hb2 ba Z0
  go_wp2_with fail
  obtain ⟨W, hW⟩ : ∃ W, W = w2.alloc (.cells #[.slice a7 n7 c7, .slice a8 n8 c8] 35) := ⟨_, rfl⟩
  have z0 : W.cell? ⟨w2.heap.size, 0, none⟩ = some (.slice a7 n7 c7) := by rw [hW]; simp [go_sem]
  have z1 : W.cell? ⟨w2.heap.size, 1, none⟩ = some (.slice a8 n8 c8) := by rw [hW]; simp [go_sem]
  obtain ⟨g, hg⟩ : ∃ g, g = w2.heap.size := ⟨_, rfl⟩
  rw [← hW] at Z1
  rw [← hg] at z0 z1 Z1
  rw [← hW, ← hg]
  clear hW hg
  have ne : Hid (g ≠ b) := Z1.out.2.2.2.2.2
  have rs : Hid (RS 0 ∧ RS 1 ∧ RS 2 ∧ RS 3) := ⟨rs_few (by omega), rs_few (by omega), rs_few (by omega), rs_few (by omega)⟩
  refine wp_region_held_drew (S := fun w9 => w9.cell? ⟨g, 0, none⟩ = some (.slice a7 n7 c7) ∧ w9.cell? ⟨g, 1, none⟩ = some (.slice a8 n8 c8)) (by kernel_rfl) ⟨z0, z1⟩ (fun hHeld => ?_)
  refine wpAnyH_take (i := 0) (v := .pointer (some ⟨b, 0, none⟩)) rfl (by kernel_rfl) (by kernel_rfl) (by kernel_rfl) (fun _ _ _ h => h) (Or.inl ⟨by rfl, ?_⟩) (by assumption) ?_
  · intro w hSw
    obtain ⟨g1, g2⟩ := hSw
    go_simp
  refine wpAnyH_ready (rs := [1]) (by kernel_rfl) (by simp) ?_
  refine AllReadyH.cons rfl (fun K9 hK9 => ?_) AllReadyH.nil
  go_simp
  refine Calls.mono (told_100 b _ (Z1.out.1.go (bel_dr (bel_refl _))) (Z1.out.2.1.go (bel_dr (bel_refl _)))) ?_
  rintro e w3 ⟨v3, rfl, hv3, hB3, hF3⟩
  replace hF3 := (Fb.of (S := fun x => x = b) (bel_dr (bel_refl W))).trans hF3
  have y0 := hF3.cell z0 ne.out
  have y1 := hF3.cell z1 ne.out
  have Z2 : Hid (Rt w3 v3 0 1 ∧ Bu w3 b 100 0 1 2 10 ∧ Tab w3 ∧ Fb (fun x => x = b) w w3 ∧ RRt w3 (.agg #[.slice a7 n7 c7, .slice a8 n8 c8]) 3 2) := ⟨hv3, hB3, Z1.out.2.1.fb hF3 (fun k e => e ▸ Z1.out.1.odd), (Fb.of Z1.out.2.2.1).trans hF3, Z1.out.2.2.2.2.1.fb hF3 (fun k e => e ▸ Z1.out.1.odd)⟩
  have Z9 : Hid (w.heap.size ≤ b) := Z1.out.2.2.2.1
  clear hv3 hB3 hF3 Z1 hHeld
  refine hK9.out _ _ ⟨y0, y1⟩ (fun hHeld => ?_)
  clear hK9 K9
  refine wpAnyH_ready (rs := [2]) (by kernel_rfl) (by simp) ?_
  refine AllReadyH.cons rfl (fun K9 hK9 => ?_) AllReadyH.nil
  go_simp
  refine Calls.mono (rzero2_any _) ?_
  rintro e w4 ⟨v4, rfl, hv4, hb4⟩
  have x0 := cell_later hb4 y0
  have x1 := cell_later hb4 y1
  have Z3 : Hid (Rt w4 v3 0 1 ∧ RRt w4 v4 0 1 ∧ Bu w4 b 100 0 1 2 10 ∧ Tab w4 ∧ Fb (fun x => x = b) w w4 ∧ RRt w4 (.agg #[.slice a7 n7 c7, .slice a8 n8 c8]) 3 2) := ⟨Z2.out.1.mono hb4, hv4, Z2.out.2.1.go hb4, Z2.out.2.2.1.go hb4, Z2.out.2.2.2.1.go hb4, Z2.out.2.2.2.2.mono hb4⟩
  clear hv4 hb4 Z2 hHeld y0 y1
  refine hK9.out _ _ ⟨x0, x1⟩ (fun hHeld => ?_)
  clear hK9 K9
  refine wpAnyH_ready (rs := [3]) (by kernel_rfl) (by simp) ?_
  refine AllReadyH.cons rfl (fun K9 hK9 => ?_) AllReadyH.nil
  go_simp
  refine Calls.mono (rsame_true v3 v4 0 1 _ Z3.out.1 Z3.out.2.1 rs.out.1 rs.out.2.1) ?_
  rintro e w5 ⟨rfl, hb5⟩
  have u0 := cell_later hb5 x0
  have u1 := cell_later hb5 x1
  have Z4 : Hid (Bu w5 b 100 0 1 2 10 ∧ Tab w5 ∧ Fb (fun x => x = b) w w5 ∧ RRt w5 (.agg #[.slice a7 n7 c7, .slice a8 n8 c8]) 3 2) := ⟨Z3.out.2.2.1.go hb5, Z3.out.2.2.2.1.go hb5, Z3.out.2.2.2.2.1.go hb5, Z3.out.2.2.2.2.2.mono hb5⟩
  clear hb5 Z3 hHeld x0 x1
  refine hK9.out _ _ ⟨u0, u1⟩ (fun hHeld => ?_)
  clear hK9 K9
  refine wpAnyH_take (i := 4) (v := .bool true) rfl (by kernel_rfl) (by kernel_rfl) (by kernel_rfl) (fun _ _ _ h => h) (Or.inl ⟨by rfl, ?_⟩) (by assumption) ?_
  · intro w hSw
    obtain ⟨g1, g2⟩ := hSw
    go_simp
  refine wpAnyH_take (i := 5) (v := .pointer (some ⟨b, 0, none⟩)) rfl (by kernel_rfl) (by kernel_rfl) (by kernel_rfl) (fun _ _ _ h => h) (Or.inl ⟨by rfl, ?_⟩) (by assumption) ?_
  · intro w hSw
    obtain ⟨g1, g2⟩ := hSw
    go_simp
  refine wpAnyH_take (i := 7) (v := (.agg #[.slice a7 n7 c7, .slice a8 n8 c8])) rfl (by kernel_rfl) (by kernel_rfl) (by kernel_rfl) (fun _ _ _ h => h) (Or.inl ⟨by rfl, ?_⟩) (by assumption) ?_
  · intro w hSw
    obtain ⟨g1, g2⟩ := hSw
    go_simp
  refine wpAnyH_ready (rs := [6]) (by kernel_rfl) (by simp) ?_
  refine AllReadyH.cons rfl (fun K9 hK9 => ?_) AllReadyH.nil
  go_simp
  refine Calls.mono (told_103 b _ Z4.out.1 Z4.out.2.1) ?_
  rintro e w6 ⟨v6, rfl, hv6, hB6, hF6⟩
  have t0 := hF6.cell u0 ne.out
  have t1 := hF6.cell u1 ne.out
  have Z5 : Hid (Rt w6 v6 3 2 ∧ Bu w6 b 103 3 1 2 10 ∧ Tab w6 ∧ Fb (fun x => x = b) w w6 ∧ RRt w6 (.agg #[.slice a7 n7 c7, .slice a8 n8 c8]) 3 2) := ⟨hv6, hB6, Z4.out.2.1.fb hF6 (fun k e => e ▸ Z4.out.1.odd), Z4.out.2.2.1.trans hF6, Z4.out.2.2.2.fb hF6 (fun k e => e ▸ Z4.out.1.odd)⟩
  clear hv6 hB6 hF6 Z4 hHeld u0 u1
  refine hK9.out _ _ ⟨t0, t1⟩ (fun hHeld => ?_)
  clear hK9 K9
  refine wpAnyH_ready (rs := [8]) (by kernel_rfl) (by simp) ?_
  refine AllReadyH.cons rfl (fun K9 hK9 => ?_) AllReadyH.nil
  go_simp
  refine Calls.mono (rsame_true v6 (.agg #[.slice a7 n7 c7, .slice a8 n8 c8]) 3 2 _ Z5.out.1 Z5.out.2.2.2.2 rs.out.2.2.2 rs.out.2.2.1) ?_
  rintro e w7 ⟨rfl, hb7⟩
  have s0 := cell_later hb7 t0
  have s1 := cell_later hb7 t1
  have Z6 : Hid (Bu w7 b 103 3 1 2 10 ∧ Tab w7 ∧ Fb (fun x => x = b) w w7) := ⟨Z5.out.2.1.go hb7, Z5.out.2.2.1.go hb7, Z5.out.2.2.2.1.go hb7⟩
  clear hb7 Z5 hHeld t0 t1
  refine hK9.out _ _ ⟨s0, s1⟩ (fun hHeld => ?_)
  clear hK9 K9
  refine wpAnyH_take (i := 9) (v := .bool true) rfl (by kernel_rfl) (by kernel_rfl) (by kernel_rfl) (fun _ _ _ h => h) (Or.inl ⟨by rfl, ?_⟩) (by assumption) ?_
  · intro w hSw
    obtain ⟨g1, g2⟩ := hSw
    go_simp
  refine wpAnyH_take (i := 10) (v := .bool true) rfl (by kernel_rfl) (by kernel_rfl) (by kernel_rfl) (fun _ _ _ h => h) (Or.inl ⟨by rfl, ?_⟩) (by assumption) ?_
  · intro w hSw
    obtain ⟨g1, g2⟩ := hSw
    go_simp
  refine wpAnyH_done (by kernel_rfl) ?_ _
  go_wp2_with fail
  refine (told_3 b _ Z6.out.1 Z6.out.2.1).mono ?_
  rintro e w8 ⟨rfl, hB8, hF8⟩
  have Z7 : Hid (Bu w8 b 104 4 1 2 10 ∧ Tab w8 ∧ Fb (fun x => x = b) w w8) := ⟨hB8, Z6.out.2.1.fb hF8 (fun k e => e ▸ Z6.out.1.odd), Z6.out.2.2.trans hF8⟩
  clear hB8 hF8 Z6
  go_wp2_with fail
  refine (told_2 b _ Z7.out.1 Z7.out.2.1).mono ?_
  rintro e w9 ⟨rfl, hF9⟩
  have Z8 : Hid (Below w.heap.size w w9) := (Z7.out.2.2.trans hF9).below (Nat.le_refl _) (fun k e => e ▸ Z9.out)
  clear hF9 Z7
  go_wp2_with fail
  go_ret
  exact ⟨rfl, Z8.out⟩
end Go.Proofs.YtdmkneojhnhomaaGreatDoor
namespace Go.Proofs.YtdmkneojhnhomaaGreatDoor
open Go.RowKit
set_option maxRecDepth 100000
set_option linter.unusedVariables false
theorem ceil_le {x R : Nat} (hR : 0 < R) : x ≤ R * ceilN x R := by
  have h := Nat.div_add_mod x R
  have h2 := Nat.mod_lt x hR
  unfold ceilN
  by_cases e : x % R = 0
  · rw [if_pos e]
    omega
  · rw [if_neg e, Nat.mul_add]
    omega
theorem ceil_gt {x R k : Nat} (hR : 0 < R) (hk : k < ceilN x R) : R * k < x := by
  have h := Nat.div_add_mod x R
  have h2 := Nat.mod_lt x hR
  unfold ceilN at hk
  by_cases e : x % R = 0
  · rw [if_pos e] at hk
    have : R * (k + 1) ≤ R * (x / R) := Nat.mul_le_mul_left _ hk
    rw [Nat.mul_add] at this
    omega
  · rw [if_neg e] at hk
    have : R * k ≤ R * (x / R) := Nat.mul_le_mul_left _ (by omega)
    omega
/-- What it means that Wait tells a tick, and that it tells none. -/
theorem wait_zero {T N R D B k : Nat} (h1 : 1 ≤ k) (h2 : k ≤ B) (hT : T ≤ 4611686018427387904) (h : waitE T N R D B (k : Int) = 0) :
    ∃ d, waitV T N R D B (k : Int) = T + d ∧ T + d ≤ 4611686018427387904 ∧ k * D ≤ N + R * d ∧ ∀ j, j < d → N + R * j < k * D := by
  obtain ⟨val, ok, ht⟩ := tick_ex N R D k
  by_cases hc : ok = true ∧ T + val ≤ 4611686018427387904
  · obtain ⟨rfl, hc⟩ := hc
    refine ⟨val, (wait_yes ht h1 h2 hc).2, hc, ?_, ?_⟩
    · rcases ht with h | h | h | h
      · omega
      · cases h.2.2.2
      · have := ceil_le (x := k * D - N) h.2.1
        rw [← h.2.2.2.1] at this
        omega
      · cases h.2.2.2.2
    · intro j hj
      rcases ht with h | h | h | h
      · omega
      · cases h.2.2.2
      · rw [h.2.2.2.1] at hj
        have := ceil_gt h.2.1 hj
        omega
      · cases h.2.2.2.2
  · have := (wait_no (B := B) ht h1 h2 hT fun e hh => hc ⟨e, hh⟩).1
    rw [this] at h
    cases h
theorem wait_none {T N R D B k : Nat} (h1 : 1 ≤ k) (h2 : k ≤ B) (hT : T ≤ 4611686018427387904) (h : ¬ waitE T N R D B (k : Int) = 0) :
    waitE T N R D B (k : Int) = 80 ∧ waitV T N R D B (k : Int) = 0 ∧ ∀ j, T + j ≤ 4611686018427387904 → N + R * j < k * D := by
  obtain ⟨val, ok, ht⟩ := tick_ex N R D k
  by_cases hc : ok = true ∧ T + val ≤ 4611686018427387904
  · obtain ⟨rfl, hc⟩ := hc
    exact absurd (wait_yes ht h1 h2 hc).1 h
  · have hw := wait_no (B := B) ht h1 h2 hT fun e hh => hc ⟨e, hh⟩
    refine ⟨hw.1, hw.2, fun j hj => ?_⟩
    rcases ht with h | h | h | h
    · exact absurd ⟨h.2.2, by omega⟩ hc
    · rw [h.2.1, Nat.zero_mul]
      omega
    · have hn : ¬ T + val ≤ 4611686018427387904 := fun e => hc ⟨h.2.2.2.2, e⟩
      have := ceil_gt (x := k * D - N) (k := j) h.2.1 (by rw [← h.2.2.2.1]; omega)
      omega
    · have := ceil_gt (x := k * D - N) (k := j) h.2.1 (by have := h.2.2.1; omega)
      omega
theorem take_80 {N D k : Nat} (h1 : 1 ≤ k) (h : N < k * D) : takeE N D (k : Int) = 80 := by
  unfold takeE
  rw [Int.toNat_natCast, if_neg (by omega), if_pos h]
theorem take_0 {N D k : Nat} (h1 : 1 ≤ k) (h : k * D ≤ N) : takeE N D (k : Int) = 0 := by
  unfold takeE
  rw [Int.toNat_natCast, if_neg (by omega), if_neg (by omega)]
theorem atT_of {T x : Nat} (h : T ≤ x) (h2 : x ≤ 4611686018427387904) : atT T (x : Int) = x := by unfold atT; omega
theorem atN_of {T N R D B x : Nat} (h : T ≤ x) (h2 : x ≤ 4611686018427387904) : atN T N R D B (x : Int) = fillN N R D B (x - T) := by unfold atN; rw [atT_of h h2]
theorem wf_i64 {n : Int} (h : (Lit.int .i64 n).wf = true) : -9223372036854775808 ≤ n ∧ n ≤ 9223372036854775807 := by
  have hmin : IntKind.i64.min = -9223372036854775808 := rfl
  have hmax : IntKind.i64.max = 9223372036854775807 := rfl
  have h2 : IntKind.i64.min ≤ n ∧ n ≤ IntKind.i64.max := by simpa [Lit.wf] using h
  rw [hmin, hmax] at h2
  exact h2
theorem wf_u64 {n : Int} (h : (Lit.int .u64 n).wf = true) : ∃ u : Nat, n = (u : Int) ∧ u < 18446744073709551616 := by
  have hmin : IntKind.u64.min = 0 := rfl
  have hmax : IntKind.u64.max = 18446744073709551615 := rfl
  have h2 : IntKind.u64.min ≤ n ∧ n ≤ IntKind.u64.max := by simpa [Lit.wf] using h
  rw [hmin, hmax] at h2
  exact ⟨n.toNat, by omega, by omega⟩
theorem ownD : ownKnob Tryz.prog.godebug = none := by kernel_rfl
theorem laidOutD : laidOutB Tryz.prog = true := by kernel_rfl
end Go.Proofs.YtdmkneojhnhomaaGreatDoor
namespace Go.Proofs.YtdmkneojhnhomaaGreatDoor
open Go.RowKit
set_option maxRecDepth 100000
set_option linter.unusedVariables false
/-- A bucket beside an array of two. -/
structure Sw (W0 W : World) (g b T N R D B : Nat) (a0 a1 : Int) : Prop where
  bu : Bu W b T N R D B
  lo : W0.heap.size ≤ b
  bel : Below W0.heap.size W0 W
  arr : W.heap[g]? = some (.cells #[.int .i64 a0, .int .i64 a1] 68)
  ne : g ≠ b
  tab : Tab W
section
variable {W0 W W' : World} {g b T N R D B : Nat} {a0 a1 : Int}
theorem Sw.go (h : Sw W0 W g b T N R D B a0 a1) (k : Below W.heap.size W W') : Sw W0 W' g b T N R D B a0 a1 :=
  ⟨h.bu.go k, h.lo, h.bel.trans (k.mono h.bel.size), (k.block g (Array.getElem?_eq_some_iff.1 h.arr).1).trans h.arr, h.ne, h.tab.go k⟩
theorem Sw.step {T' N' : Nat} (h : Sw W0 W g b T N R D B a0 a1) (k : Bu W' b T' N' R D B) (f : Fb (fun x => x = b) W W') : Sw W0 W' g b T' N' R D B a0 a1 :=
  ⟨k, h.lo, h.bel.trans (f.below h.bel.size (fun x e => e ▸ h.lo)), f.heap h.arr h.ne, h.ne, h.tab.fb f (fun x e => e ▸ h.bu.odd)⟩
theorem Sw.at (h : Sw W0 W g b T N R D B a0 a1) (t : Int) : Calls Tryz.prog 13 #[.pointer (some ⟨b, 0, none⟩), .int .i64 t] W fun e W' => ∃ v, e = .returned v ∧ Sw W0 W' g b (atT T t) (atN T N R D B t) R D B a0 a1 := by
  refine (bat_any b T N R D B t W h.bu h.tab).mono ?_
  rintro e W' ⟨v, p, q, rfl, _, _, k, f⟩
  exact ⟨v, rfl, h.step k f⟩
theorem Sw.take (h : Sw W0 W g b T N R D B a0 a1) (t n : Int) (hn : n ≤ 9223372036854775807) : Calls Tryz.prog 16 #[.pointer (some ⟨b, 0, none⟩), .int .i64 t, .int .i64 n] W fun e W' => e = .returned (.int .i64 (takeE (atN T N R D B t) D n)) ∧ Sw W0 W' g b (atT T t) (takeN (atN T N R D B t) D n) R D B a0 a1 := by
  refine (btake_any b T N R D B t n W h.bu h.tab hn).mono ?_
  rintro e W' ⟨rfl, k, f⟩
  exact ⟨rfl, h.step k f⟩
theorem Sw.wait (h : Sw W0 W g b T N R D B a0 a1) (n : Int) (hn : n ≤ 9223372036854775807) : Calls Tryz.prog 18 #[.pointer (some ⟨b, 0, none⟩), .int .i64 n] W fun e W' => e = .returned (.tuple #[.int .i64 ((waitV T N R D B n : Nat) : Int), .int .i64 (waitE T N R D B n)]) ∧ Sw W0 W' g b T N R D B a0 a1 := by
  refine (bwait_any b T N R D B n W h.bu h.tab hn).mono ?_
  rintro e W' ⟨rfl, k⟩
  exact ⟨rfl, h.go k⟩
theorem Sw.told (h : Sw W0 W g b T N R D B a0 a1) : Calls Tryz.prog 8 #[] W fun e W' => e = .returned (.bool true) ∧ Sw W0 W' g b T N R D B a0 a1 := by
  refine (btold_true W h.tab).mono ?_
  rintro e W' ⟨rfl, k⟩
  exact ⟨rfl, h.go k⟩
theorem Sw.cells (h : Sw W0 W g b T N R D B a0 a1) : W.cell? ⟨g, 0, none⟩ = some (.int .i64 a0) ∧ W.cell? ⟨g, 1, none⟩ = some (.int .i64 a1) ∧ ∀ i, W.frozen? ⟨g, i, none⟩ = false := by
  refine ⟨by simp [World.cell?, h.arr], by simp [World.cell?, h.arr], fun i => by simp [World.frozen?, h.arr]⟩
end
/-- What is known at a round's beginning. -/
structure Hw (W0 W : World) (g : Nat) (a0 a1 : Int) : Prop where
  bel : Below W0.heap.size W0 W
  arr : W.heap[g]? = some (.cells #[.int .i64 a0, .int .i64 a1] 68)
  lo : W0.heap.size ≤ g
  tab : Tab W
theorem Hw.cells {W0 W : World} {g : Nat} {a0 a1 : Int} (h : Hw W0 W g a0 a1) : W.cell? ⟨g, 0, none⟩ = some (.int .i64 a0) ∧ W.cell? ⟨g, 1, none⟩ = some (.int .i64 a1) ∧ ∀ i, W.frozen? ⟨g, i, none⟩ = false := by
  refine ⟨by simp [World.cell?, h.arr], by simp [World.cell?, h.arr], fun i => by simp [World.frozen?, h.arr]⟩
theorem Hw.go {W0 W W' : World} {g : Nat} {a0 a1 : Int} (h : Hw W0 W g a0 a1) (k : Below W.heap.size W W') : Hw W0 W' g a0 a1 :=
  ⟨h.bel.trans (k.mono h.bel.size), (k.block g (Array.getElem?_eq_some_iff.1 h.arr).1).trans h.arr, h.lo, h.tab.go k⟩
theorem Hw.new {W0 W W' : World} {g b T N R D B : Nat} {a0 a1 : Int} (h : Hw W0 W g a0 a1) (k : Below W.heap.size W W') (hb : W.heap.size ≤ b) (hu : Bu W' b T N R D B) : Sw W0 W' g b T N R D B a0 a1 :=
  ⟨hu, Nat.le_trans h.bel.size hb, (h.go k).bel, (h.go k).arr, by have := (Array.getElem?_eq_some_iff.1 h.arr).1; omega, (h.go k).tab⟩
theorem odd_arr {W : World} {g : Nat} {a0 a1 : Int} (h : W.heap[g]? = some (.cells #[.int .i64 a0, .int .i64 a1] 68)) : Odd W g := by
  intro i k n e
  simp only [World.cell?, h] at e
  match i, e with
  | 0, e => simp at e; exact e.1.symm
  | 1, e => simp at e; exact e.1.symm
  | i + 2, e => simp at e
/-- The array is written. -/
theorem Sw.put0 {W0 W : World} {g b T N R D B : Nat} {a0 a1 : Int} (h : Sw W0 W g b T N R D B a0 a1) (hg : W0.heap.size ≤ g) (x : Int) : Sw W0 (W.setCell ⟨g, 0, none⟩ (.int .i64 x)) g b T N R D B x a1 := by
  have F : Fb (fun k => k = g) W (W.setCell ⟨g, 0, none⟩ (.int .i64 x)) := (Fb.refl (fun k => k = g) W).set (x := ⟨g, 0, none⟩) rfl _
  have ho : ∀ k, k = g → Odd W k := fun k e => e ▸ odd_arr h.arr
  exact ⟨h.bu.fb F ho (fun e => h.ne e.symm), h.lo, h.bel.setCell hg _, by simp [World.setCell, Array.getElem?_modify, h.arr], h.ne, h.tab.fb F ho⟩
theorem Sw.put1 {W0 W : World} {g b T N R D B : Nat} {a0 a1 : Int} (h : Sw W0 W g b T N R D B a0 a1) (hg : W0.heap.size ≤ g) (x : Int) : Sw W0 (W.setCell ⟨g, 1, none⟩ (.int .i64 x)) g b T N R D B a0 x := by
  have F : Fb (fun k => k = g) W (W.setCell ⟨g, 1, none⟩ (.int .i64 x)) := (Fb.refl (fun k => k = g) W).set (x := ⟨g, 1, none⟩) rfl _
  have ho : ∀ k, k = g → Odd W k := fun k e => e ▸ odd_arr h.arr
  exact ⟨h.bu.fb F ho (fun e => h.ne e.symm), h.lo, h.bel.setCell hg _, by simp [World.setCell, Array.getElem?_modify, h.arr], h.ne, h.tab.fb F ho⟩
set_option maxHeartbeats 8000000 in
theorem waits_any (W0 : World) (i0 : Int) (u : Nat) (i2 i3 i4 i5 : Int) (r0 : -9223372036854775808 ≤ i0 ∧ i0 ≤ 9223372036854775807) (hu : u < 18446744073709551616) (r2 : -9223372036854775808 ≤ i2 ∧ i2 ≤ 9223372036854775807) (r3 : -9223372036854775808 ≤ i3 ∧ i3 ≤ 9223372036854775807) (r4 : -9223372036854775808 ≤ i4 ∧ i4 ≤ 9223372036854775807) (r5 : -9223372036854775808 ≤ i5 ∧ i5 ≤ 9223372036854775807) (hT : Tab W0) :
    Calls Tryz.prog 6 #[.int .i64 i0, .int .u64 (u : Int), .int .i64 i2, .int .i64 i3, .int .i64 i4, .int .i64 i5] W0 fun e w' => e = .returned (.bool true) ∧ Below W0.heap.size W0 w' := by
  have FE : Hid (∀ (n : Int) (m : Nat) w, -9223372036854775808 ≤ n ∧ n ≤ 9223372036854775807 → m ≤ 9223372036854775806 → Calls Tryz.prog 20 #[.int .i64 n, .int .i64 (m : Int)] w fun e w' => e = .returned (.int .i64 ((fewN n m : Nat) : Int)) ∧ w = w') := fun n m w h hm => (few_any n m w h.1 h.2 hm).mono fun e w' h => ⟨h.1, h.2.symm⟩
  have FL : ∀ (n : Int) (m : Nat) (M : Int) w, (m : Int) = M → -9223372036854775808 ≤ n ∧ n ≤ 9223372036854775807 → m ≤ 9223372036854775806 → Calls Tryz.prog 20 #[.int .i64 n, .int .i64 M] w fun e w' => e = .returned (.int .i64 ((fewN n m : Nat) : Int)) ∧ w = w' := fun n m M w e h hm => by subst e; exact (few_any n m w h.1 h.2 hm).mono fun e w' h => ⟨h.1, h.2.symm⟩
  have FA : Hid (∀ w, Calls Tryz.prog 20 #[.int .i64 i0, .int .i64 1099511627775] w fun e w' => e = .returned (.int .i64 ((fewN i0 1099511627775 : Nat) : Int)) ∧ w = w') := fun w => FL i0 1099511627775 _ w (by omega) r0 (by omega)
  have FB : Hid (∀ w, Calls Tryz.prog 20 #[.int .i64 i2, .int .i64 1073741823] w fun e w' => e = .returned (.int .i64 ((fewN i2 1073741823 : Nat) : Int)) ∧ w = w') := fun w => FL i2 1073741823 _ w (by omega) r2 (by omega)
  have FC : Hid (∀ w, Calls Tryz.prog 20 #[.int .i64 i3, .int .i64 2305843009213693952] w fun e w' => e = .returned (.int .i64 ((fewN i3 2305843009213693952 : Nat) : Int)) ∧ w = w') := fun w => FL i3 2305843009213693952 _ w (by omega) r3 (by omega)
  clear FL
  have RR : Hid ((-9223372036854775808 ≤ i0 ∧ i0 ≤ 9223372036854775807) ∧ (-9223372036854775808 ≤ i2 ∧ i2 ≤ 9223372036854775807) ∧ (-9223372036854775808 ≤ i3 ∧ i3 ≤ 9223372036854775807) ∧ (-9223372036854775808 ≤ i4 ∧ i4 ≤ 9223372036854775807) ∧ (-9223372036854775808 ≤ i5 ∧ i5 ≤ 9223372036854775807)) := ⟨r0, r2, r3, r4, r5⟩
  have HU : Hid (u < 18446744073709551616 ∧ Tab W0) := ⟨hu, hT⟩
  clear r0 r2 r3 r4 r5 hT hu
  go_enter Tryz.func6, Tryz.ntmps6
  go_wp2_with fail
  refine (FA.out _).mono ?_
  rintro e w1 ⟨rfl, rfl⟩
  obtain ⟨f0, hf0⟩ : ∃ f, f = fewN i0 1099511627775 := ⟨_, rfl⟩
  have l0 : f0 ≤ 1099511627775 := by rw [hf0]; exact fewN_le _ _
  rw [← hf0]
  clear hf0
  obtain ⟨B, eB⟩ : ∃ B : Nat, B = f0 + 1 := ⟨_, rfl⟩
  have q0' : wrap64 ((f0 : Int) + 1) = (B : Int) := by rw [IntWalk.wrap64_in _ ⟨by omega, by omega⟩]; omega
  have HB : Hid (1 ≤ B ∧ B ≤ 1099511627776) := ⟨by omega, by omega⟩
  clear eB l0
  go_wp2_with fail
  refine (FB.out _).mono ?_
  rintro e w1 ⟨rfl, rfl⟩
  obtain ⟨f1, hf1⟩ : ∃ f, f = fewN i2 1073741823 := ⟨_, rfl⟩
  have l1 : f1 ≤ 1073741823 := by rw [hf1]; exact fewN_le _ _
  rw [← hf1]
  clear hf1
  obtain ⟨per, eper⟩ : ∃ per : Nat, per = f1 + 1 := ⟨_, rfl⟩
  have q1' : wrap64 ((f1 : Int) + 1) = (per : Int) := by rw [IntWalk.wrap64_in _ ⟨by omega, by omega⟩]; omega
  have HP : Hid (1 ≤ per ∧ per ≤ 1073741824) := ⟨by omega, by omega⟩
  clear eper l1
  go_wp2_with fail
  refine (FC.out _).mono ?_
  rintro e w1 ⟨rfl, rfl⟩
  obtain ⟨t, ht⟩ : ∃ f, f = fewN i3 2305843009213693952 := ⟨_, rfl⟩
  have lt : t ≤ 2305843009213693952 := by rw [ht]; exact fewN_le _ _
  rw [← ht]
  have HT : Hid (t ≤ 2305843009213693952) := lt
  clear ht lt
  obtain ⟨B1, eB1⟩ : ∃ B1 : Nat, B1 = B - 1 := ⟨_, rfl⟩
  have q2' : wrap64 ((B : Int) - 1) = (B1 : Int) := by have := HB.out; rw [IntWalk.wrap64_in _ ⟨by omega, by omega⟩]; omega
  have HB1 : Hid (B1 = B - 1) := eB1
  clear eB1
  go_wp2_with fail
  refine (FE.out i4 B1 _ RR.out.2.2.2.1 (by have := HB.out; have := HB1.out; omega)).mono ?_
  rintro e w1 ⟨rfl, rfl⟩
  obtain ⟨f3, hf3⟩ : ∃ f, f = fewN i4 B1 := ⟨_, rfl⟩
  have l3 : f3 ≤ B1 := by rw [hf3]; exact fewN_le _ _
  rw [← hf3]
  clear hf3
  obtain ⟨n, en⟩ : ∃ n : Nat, n = f3 + 1 := ⟨_, rfl⟩
  have HN : Hid (1 ≤ n ∧ n ≤ B) := ⟨by omega, by have := HB.out; have := HB1.out; omega⟩
  have q3' : wrap64 ((f3 : Int) + 1) = (n : Int) := by have := HB.out; have := HN.out; rw [IntWalk.wrap64_in _ ⟨by omega, by omega⟩]; omega
  clear en l3
  obtain ⟨R, eR⟩ : ∃ R, R = rP u per := ⟨_, rfl⟩
  obtain ⟨D, eD⟩ : ∃ D, D = rQ u per := ⟨_, rfl⟩
  obtain ⟨c, ec⟩ : ∃ c, c = fewN i5 B := ⟨_, rfl⟩
  obtain ⟨N2, eN2⟩ : ∃ N2, N2 = takeN (fillN 0 R D B t) D (c : Int) := ⟨_, rfl⟩
  obtain ⟨X, eX⟩ : ∃ X, X = waitV t N2 R D B (n : Int) := ⟨_, rfl⟩
  obtain ⟨er, eer⟩ : ∃ er, er = waitE t N2 R D B (n : Int) := ⟨_, rfl⟩
  have HC : Hid (c = fewN i5 B ∧ N2 = takeN (fillN 0 R D B t) D (c : Int) ∧ X = waitV t N2 R D B (n : Int) ∧ er = waitE t N2 R D B (n : Int) ∧ c ≤ B) := ⟨ec, eN2, eX, eer, by rw [ec]; exact fewN_le _ _⟩
  have HRD : Hid (R = rP u per ∧ D = rQ u per) := ⟨eR, eD⟩
  have H0 : Hid (Hw W0 (W0.alloc (.cells #[.int .i64 0, .int .i64 0] 68)) W0.heap.size 0 0) := ⟨bel_al (bel_refl _), heap_new _ _, Nat.le_refl _, HU.out.2.go (bel_al (bel_refl _))⟩
  clear eR eD ec eN2 eX eer
  go_wp2_with fail
  obtain ⟨Wa, hWa⟩ : ∃ Wa, Wa = W0.alloc (.cells #[.int .i64 0, .int .i64 0] 68) := ⟨_, rfl⟩
  obtain ⟨g, hg⟩ : ∃ g, g = W0.heap.size := ⟨_, rfl⟩
  have HG : Hid (W0.heap.size ≤ g) := by show _ ≤ _; omega
  rw [← hWa, ← hg] at H0
  rw [← hWa, ← hg]
  simp only [q3']
  clear hWa hg q0' q1' q2' q3' HB1
  have FT : Hid (∀ w, Calls Tryz.prog 10 #[.int .u64 (u : Int)] w fun e w' => e = .returned (.float .f64 u) ∧ w = w') := fun w => (float_any u w).mono fun e w' h => ⟨h.1, h.2.symm⟩
  have NY : Hid (∀ w, Tab w → rateOk u (per : Int) → Calls Tryz.prog 9 #[.int .i64 (B : Int), .float .f64 u, .int .i64 (per : Int), .int .i64 0] w (NewYes w 0 R D B)) := fun w hT h => by
    have := bnew_yes B u per 0 w HB.out.1 HB.out.2 h (by omega) hT
    rw [← HRD.out.1, ← HRD.out.2] at this
    exact this
  have NN : Hid (∀ w, ¬ rateOk u (per : Int) → Calls Tryz.prog 9 #[.int .i64 (B : Int), .float .f64 u, .int .i64 (per : Int), .int .i64 0] w (NewNo w 98)) := fun w h => bnew_rate (B : Int) u (per : Int) 0 w (by have := HB.out; omega) (by have := HB.out; omega) h HU.out.1
  clear FA FB FC HRD HP
  go_loopw [14] (fun i wr => (i = .int .i64 0 ∧ Hid (Hw W0 wr g 0 0)) ∨ (i = .int .i64 1 ∧ Hid (Hw W0 wr g (X : Int) 0)) ∨ (i = .int .i64 2 ∧ Hid (Hw W0 wr g (X : Int) (X : Int)))) (fun i _ => 2 - (intOf i).toNat)
  case atStart => exact .inl ⟨rfl, H0⟩
  case round =>
    clear H0
    rcases hrel with ⟨rfl, hI⟩ | ⟨rfl, hI⟩ | ⟨rfl, hI⟩
    · go_wp2_with fail
      refine (FT.out _).mono ?_
      rintro e w1 ⟨rfl, rfl⟩
      go_wp2_with fail
      by_cases hr : rateOk u (per : Int)
      · refine (NY.out wr hI.out.tab hr).mono ?_
        rintro e w2 ⟨b, rfl, hb, hu, hbl⟩
        have S0 : Hid (Sw W0 w2 g b 0 0 R D B 0 0) := hI.out.new hbl hb hu
        clear hb hu hbl hI hr
        go_wp2_with fail
        refine S0.out.told.mono ?_
        rintro e w3 ⟨rfl, h3⟩
        have S1 : Hid (Sw W0 w3 g b 0 0 R D B 0 0) := h3
        clear h3 S0
        go_wp2_with fail
        refine (S1.out.at (t : Int)).mono ?_
        rintro e w4 ⟨v4, rfl, h4⟩
        rw [atT_of (Nat.zero_le t) (by have := HT.out; omega), atN_of (Nat.zero_le t) (by have := HT.out; omega), Nat.sub_zero] at h4
        have S2 : Hid (Sw W0 w4 g b t (fillN 0 R D B t) R D B 0 0) := h4
        clear h4 S1
        go_wp2_with fail
        refine (FE.out i5 B _ RR.out.2.2.2.2 (by have := HB.out; omega)).mono ?_
        rintro e w5 ⟨rfl, rfl⟩
        rw [← HC.out.1]
        go_wp2_with fail
        refine (S2.out.take (t : Int) (c : Int) (by have := HC.out; have := HB.out; omega)).mono ?_
        rintro e w6 ⟨rfl, h6⟩
        rw [atT_of (Nat.le_refl t) (by have := HT.out; omega), atN_of (Nat.le_refl t) (by have := HT.out; omega), Nat.sub_self, fillN_zero S2.out.bu.cN, ← HC.out.2.1] at h6
        have S3 : Hid (Sw W0 w6 g b t N2 R D B 0 0) := h6
        obtain ⟨zz, hzz⟩ : ∃ zz, zz = takeE (atN t (fillN 0 R D B t) R D B (t : Int)) D (c : Int) := ⟨_, rfl⟩
        rw [← hzz]
        clear h6 S2 hzz
        go_wp2_with fail
        refine (S3.out.wait (n : Int) (by have := HN.out; have := HB.out; omega)).mono ?_
        rintro e w7 ⟨rfl, h7⟩
        have S4 : Hid (Sw W0 w7 g b t N2 R D B 0 0) := h7
        rw [← HC.out.2.2.1, ← HC.out.2.2.2.1]
        clear h7 S3
        by_cases hz : waitE t N2 R D B (n : Int) = 0
        · obtain ⟨d, e1, e2, e3, e4⟩ := wait_zero HN.out.1 HN.out.2 (by have := HT.out; omega) hz
          have hX : X = t + d := HC.out.2.2.1.trans e1
          have her : er = 0 := HC.out.2.2.2.1.trans hz
          rw [her]
          have HX : Hid (X = t + d ∧ t + d ≤ 4611686018427387904 ∧ n * D ≤ N2 + R * d ∧ ∀ j, j < d → N2 + R * j < n * D) := ⟨hX, e2, e3, e4⟩
          have hXt : ¬ X < t := by omega
          have hXm : X ≤ 4611686018427387904 := by omega
          have dX1 : decide ((X : Int) < (t : Int)) = false := decide_eq_false (by omega)
          have dX2 : decide ((4611686018427387904 : Int) < (X : Int)) = false := decide_eq_false (by omega)
          have dX3 : decide (4611686018427387904 < X) = false := decide_eq_false (by omega)
          have hXm2 : ¬ 4611686018427387904 < X := by omega
          clear hX e1 e2 e3 e4 her hz hXm
          obtain ⟨c0, c1, cf⟩ := S4.out.cells
          have cf0 := cf 0
          have cf1 := cf 1
          have S5 : Hid (Sw W0 (w7.setCell ⟨g, 0, none⟩ (.int .i64 (X : Int))) g b t N2 R D B (X : Int) 0) := S4.out.put0 HG.out (X : Int)
          clear S4 cf
          go_wp2_with fail
          have TK : takeE (atN t N2 R D B (X : Int)) D (n : Int) = 0 := by
            obtain ⟨x1, x2, x3, x4⟩ := HX.out
            rw [atN_of (by omega) (by omega)]
            refine take_0 HN.out.1 ?_
            have : n * D ≤ B * D := Nat.mul_le_mul_right _ HN.out.2
            unfold fillN
            rw [show X - t = d by omega]
            omega
          have TA := S5.out.take (X : Int) (n : Int) (by have := HN.out; have := HB.out; omega)
          rw [TK] at TA
          refine TA.mono ?_
          clear TA TK
          rintro e w8 ⟨rfl, h8⟩
          have S6 : Hid (Hw W0 w8 g (X : Int) 0) := ⟨h8.bel, h8.arr, HG.out, h8.tab⟩
          clear h8 S5
          go_wp2_with fail
          go_roundw
          case rel => exact .inr (.inl ⟨rfl, S6⟩)
          case measure => simp [intOf]
        · obtain ⟨e1, e2, e3⟩ := wait_none HN.out.1 HN.out.2 (by have := HT.out; omega) hz
          have hX : X = 0 := HC.out.2.2.1.trans e2
          have her : er = 80 := HC.out.2.2.2.1.trans e1
          rw [her, hX]
          have TK : takeE (atN t N2 R D B 4611686018427387904) D (n : Int) = 80 := by
            rw [show (4611686018427387904 : Int) = ((4611686018427387904 : Nat) : Int) from rfl, atN_of (by have := HT.out; omega) (Nat.le_refl _)]
            refine take_80 HN.out.1 ?_
            have := e3 (4611686018427387904 - t) (by have := HT.out; omega)
            unfold fillN
            omega
          clear hX e1 e2 e3 her hz
          go_wp2_with fail
          have TA := S4.out.take 4611686018427387904 (n : Int) (by have := HN.out; have := HB.out; omega)
          rw [TK] at TA
          refine TA.mono ?_
          clear TA TK
          rintro e w8 ⟨rfl, h8⟩
          have S6 : Hid (Below W0.heap.size W0 w8) := h8.bel
          clear h8 S4
          go_wp2_with fail
          go_ret
          exact ⟨rfl, S6.out⟩
      · refine (NN.out wr hr).mono ?_
        rintro e w2 ⟨rfl, hbl⟩
        have S1 : Hid (Below W0.heap.size W0 w2 ∧ Tab w2) := ⟨(hI.out.go hbl).bel, (hI.out.go hbl).tab⟩
        clear hbl hI hr
        go_wp2_with fail
        refine (btold_true w2 S1.out.2).mono ?_
        rintro e w3 ⟨rfl, h3⟩
        have S2 : Hid (Below W0.heap.size W0 w3) := S1.out.1.trans (h3.mono S1.out.1.size)
        clear h3 S1
        go_wp2_with fail
        go_ret
        exact ⟨rfl, S2.out⟩
    · go_wp2_with fail
      refine (FT.out _).mono ?_
      rintro e w1 ⟨rfl, rfl⟩
      go_wp2_with fail
      by_cases hr : rateOk u (per : Int)
      · refine (NY.out wr hI.out.tab hr).mono ?_
        rintro e w2 ⟨b, rfl, hb, hu, hbl⟩
        have S0 : Hid (Sw W0 w2 g b 0 0 R D B (X : Int) 0) := hI.out.new hbl hb hu
        clear hb hu hbl hI hr
        go_wp2_with fail
        refine S0.out.told.mono ?_
        rintro e w3 ⟨rfl, h3⟩
        have S1 : Hid (Sw W0 w3 g b 0 0 R D B (X : Int) 0) := h3
        clear h3 S0
        go_wp2_with fail
        refine (S1.out.at (t : Int)).mono ?_
        rintro e w4 ⟨v4, rfl, h4⟩
        rw [atT_of (Nat.zero_le t) (by have := HT.out; omega), atN_of (Nat.zero_le t) (by have := HT.out; omega), Nat.sub_zero] at h4
        have S2 : Hid (Sw W0 w4 g b t (fillN 0 R D B t) R D B (X : Int) 0) := h4
        clear h4 S1
        go_wp2_with fail
        refine (FE.out i5 B _ RR.out.2.2.2.2 (by have := HB.out; omega)).mono ?_
        rintro e w5 ⟨rfl, rfl⟩
        rw [← HC.out.1]
        go_wp2_with fail
        refine (S2.out.take (t : Int) (c : Int) (by have := HC.out; have := HB.out; omega)).mono ?_
        rintro e w6 ⟨rfl, h6⟩
        rw [atT_of (Nat.le_refl t) (by have := HT.out; omega), atN_of (Nat.le_refl t) (by have := HT.out; omega), Nat.sub_self, fillN_zero S2.out.bu.cN, ← HC.out.2.1] at h6
        have S3 : Hid (Sw W0 w6 g b t N2 R D B (X : Int) 0) := h6
        obtain ⟨zz, hzz⟩ : ∃ zz, zz = takeE (atN t (fillN 0 R D B t) R D B (t : Int)) D (c : Int) := ⟨_, rfl⟩
        rw [← hzz]
        clear h6 S2 hzz
        go_wp2_with fail
        refine (S3.out.wait (n : Int) (by have := HN.out; have := HB.out; omega)).mono ?_
        rintro e w7 ⟨rfl, h7⟩
        have S4 : Hid (Sw W0 w7 g b t N2 R D B (X : Int) 0) := h7
        rw [← HC.out.2.2.1, ← HC.out.2.2.2.1]
        clear h7 S3
        by_cases hz : waitE t N2 R D B (n : Int) = 0
        · obtain ⟨d, e1, e2, e3, e4⟩ := wait_zero HN.out.1 HN.out.2 (by have := HT.out; omega) hz
          have hX : X = t + d := HC.out.2.2.1.trans e1
          have her : er = 0 := HC.out.2.2.2.1.trans hz
          rw [her]
          have HX : Hid (X = t + d ∧ t + d ≤ 4611686018427387904 ∧ n * D ≤ N2 + R * d ∧ ∀ j, j < d → N2 + R * j < n * D) := ⟨hX, e2, e3, e4⟩
          have hXt : ¬ X < t := by omega
          have hXm : X ≤ 4611686018427387904 := by omega
          have dX1 : decide ((X : Int) < (t : Int)) = false := decide_eq_false (by omega)
          have dX2 : decide ((4611686018427387904 : Int) < (X : Int)) = false := decide_eq_false (by omega)
          have dX3 : decide (4611686018427387904 < X) = false := decide_eq_false (by omega)
          have hXm2 : ¬ 4611686018427387904 < X := by omega
          clear hX e1 e2 e3 e4 her hz hXm
          obtain ⟨c0, c1, cf⟩ := S4.out.cells
          have cf0 := cf 0
          have cf1 := cf 1
          have S5 : Hid (Sw W0 (w7.setCell ⟨g, 1, none⟩ (.int .i64 (X : Int))) g b t N2 R D B (X : Int) (X : Int)) := S4.out.put1 HG.out (X : Int)
          clear S4 cf
          by_cases hd : t < X
          · have dX4 : decide ((t : Int) < (X : Int)) = true := decide_eq_true (by omega)
            obtain ⟨Y, eY⟩ : ∃ Y : Nat, Y = X - 1 := ⟨_, rfl⟩
            have QY : Hid ((X : Int) - 1 = (Y : Int)) := by show _ = _; omega
            have TK : takeE (atN t N2 R D B (Y : Int)) D (n : Int) = 80 := by
              obtain ⟨x1, x2, x3, x4⟩ := HX.out
              rw [atN_of (by omega) (by omega)]
              refine take_80 HN.out.1 ?_
              have := x4 (Y - t) (by omega)
              unfold fillN
              omega
            clear eY
            go_wp2_with fail
            rw [QY.out]
            have TA := S5.out.take (Y : Int) (n : Int) (by have := HN.out; have := HB.out; omega)
            rw [TK] at TA
            refine TA.mono ?_
            clear TA TK
            rintro e w8 ⟨rfl, h8⟩
            have S6 : Hid (Hw W0 w8 g (X : Int) (X : Int)) := ⟨h8.bel, h8.arr, HG.out, h8.tab⟩
            clear h8 S5
            go_wp2_with fail
            go_roundw
            case rel => exact .inr (.inr ⟨rfl, S6⟩)
            case measure => simp [intOf]
          · have dX4 : decide ((t : Int) < (X : Int)) = false := decide_eq_false (by omega)
            have S6 : Hid (Hw W0 (w7.setCell ⟨g, 1, none⟩ (.int .i64 (X : Int))) g (X : Int) (X : Int)) := ⟨S5.out.bel, S5.out.arr, HG.out, S5.out.tab⟩
            clear S5
            go_wp2_with fail
            go_roundw
            case rel => exact .inr (.inr ⟨rfl, S6⟩)
            case measure => simp [intOf]
        · obtain ⟨e1, e2, e3⟩ := wait_none HN.out.1 HN.out.2 (by have := HT.out; omega) hz
          have hX : X = 0 := HC.out.2.2.1.trans e2
          have her : er = 80 := HC.out.2.2.2.1.trans e1
          rw [her, hX]
          have TK : takeE (atN t N2 R D B 4611686018427387904) D (n : Int) = 80 := by
            rw [show (4611686018427387904 : Int) = ((4611686018427387904 : Nat) : Int) from rfl, atN_of (by have := HT.out; omega) (Nat.le_refl _)]
            refine take_80 HN.out.1 ?_
            have := e3 (4611686018427387904 - t) (by have := HT.out; omega)
            unfold fillN
            omega
          clear hX e1 e2 e3 her hz
          go_wp2_with fail
          have TA := S4.out.take 4611686018427387904 (n : Int) (by have := HN.out; have := HB.out; omega)
          rw [TK] at TA
          refine TA.mono ?_
          clear TA TK
          rintro e w8 ⟨rfl, h8⟩
          have S6 : Hid (Below W0.heap.size W0 w8) := h8.bel
          clear h8 S4
          go_wp2_with fail
          go_ret
          exact ⟨rfl, S6.out⟩
      · refine (NN.out wr hr).mono ?_
        rintro e w2 ⟨rfl, hbl⟩
        have S1 : Hid (Below W0.heap.size W0 w2 ∧ Tab w2) := ⟨(hI.out.go hbl).bel, (hI.out.go hbl).tab⟩
        clear hbl hI hr
        go_wp2_with fail
        refine (btold_true w2 S1.out.2).mono ?_
        rintro e w3 ⟨rfl, h3⟩
        have S2 : Hid (Below W0.heap.size W0 w3) := S1.out.1.trans (h3.mono S1.out.1.size)
        clear h3 S1
        go_wp2_with fail
        go_ret
        exact ⟨rfl, S2.out⟩
    · obtain ⟨c0, c1, cf⟩ := hI.out.cells
      clear cf
      go_wp2_with fail
      go_ret
      exact ⟨by simp, hI.out.bel⟩
end Go.Proofs.YtdmkneojhnhomaaGreatDoor
