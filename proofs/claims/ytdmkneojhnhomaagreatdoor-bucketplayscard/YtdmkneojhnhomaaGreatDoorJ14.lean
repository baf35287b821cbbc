/- Contracts of the program's functions, part 14: own work, joined in build order. -/
import Derived.Test.YtdmkneojhnhomaaGreatDoorJ13
import Derived.Handy
import Derived.Deep.Slices
import Derived.Deep.Grids
import Derived.ChangeSlices
import Derived.ProofKit
import Derived.SizedLaws
import Derived.OpenShut
import Derived.LaidMore
import Derived.WalkKit
import Derived.ChangeOld
namespace Go.Proofs.YtdmkneojhnhomaaGreatDoor
open Go.RowKit
set_option maxRecDepth 100000
set_option linter.unusedVariables false
/-- What the bits of a number say: its whole part and its exponent. -/
def fm (u : Nat) : Nat := if u / 4503599627370496 = 0 then u % 4503599627370496 else u % 4503599627370496 + 4503599627370496
def fe (u : Nat) : Nat := u / 4503599627370496 - 1
def fN (u : Nat) : Nat := fm u * 2 ^ (fe u - 1074)
def fD (u : Nat) : Nat := 2 ^ (1074 - fe u)
/-- The number that is -0 is 0. -/
def nz (u : Nat) : Nat := if u = 9223372036854775808 then 0 else u
theorem fm_lt (u : Nat) : fm u < 2 ^ 53 := by unfold fm; split <;> omega
theorem fe_le {u : Nat} (h : u < 9218868437227405312) : fe u ≤ 2045 := by unfold fe; omega
theorem two_lt {a b : Nat} (h : a < b) : 2 ^ a < 2 ^ b := Nat.pow_lt_pow_right (by omega) h
theorem two_P {a n : Nat} (h : a < 64 * n) : 2 ^ a < P n := by
  rw [P_two]
  exact two_lt h
theorem fN_gen {m e n : Nat} (hm : m < 2 ^ 53) (he : 53 + e ≤ 64 * n) : m * 2 ^ e < P n := by
  rw [P_two]
  refine Nat.lt_of_lt_of_le (Nat.mul_lt_mul_of_pos_right hm (Nat.two_pow_pos e)) ?_
  rw [← Nat.pow_add]
  exact Nat.pow_le_pow_right (by omega) he
theorem fN_lt {u : Nat} (h : u < 9218868437227405312) : fN u < P 16 := fN_gen (fm_lt u) (by have := fe_le h; omega)
theorem fD_lt (u : Nat) : fD u < P 17 := two_P (by omega)
theorem fD_pos (u : Nat) : 0 < fD u := Nat.two_pow_pos _
theorem f64bits (u : Nat) (w : World) : (callFunc 36 #[.float .f64 u]).run Tryz.prog w = .ok (.value (.int .u64 (u : Int))) w := by
  rw [run_callFunc_extern Tryz.func36 (by kernel_rfl) (by kernel_rfl) (by kernel_rfl) (e := Extern.MathFloatBits.float64bits) (by kernel_rfl)]
  rfl
theorem f64frombits (u : Nat) (w : World) : (callFunc 35 #[.int .u64 (u : Int)]).run Tryz.prog w = .ok (.value (.float .f64 u)) w := by
  rw [run_callFunc_extern Tryz.func35 (by kernel_rfl) (by kernel_rfl) (by kernel_rfl) (e := Extern.MathFloatBits.float64frombits) (by kernel_rfl)]
  rfl
set_option maxHeartbeats 400000 in
theorem bits_any (u : Nat) (w : World) : Calls Tryz.prog 12 #[.float .f64 u] w fun e w' => e = .returned (.int .u64 (u : Int)) ∧ w' = w := by
  have h1 := f64bits u
  go_enter Tryz.func12, Tryz.ntmps12
  go_wp2_with fail
  go_ret
  exact ⟨rfl, rfl⟩
set_option maxHeartbeats 400000 in
theorem float_any (u : Nat) (w : World) : Calls Tryz.prog 10 #[.int .u64 (u : Int)] w fun e w' => e = .returned (.float .f64 u) ∧ w' = w := by
  have h1 := f64frombits u
  go_enter Tryz.func10, Tryz.ntmps10
  go_wp2_with fail
  go_ret
  exact ⟨rfl, rfl⟩
/-- What FromFloat takes. -/
def isF (u : Nat) : Prop := u = 9223372036854775808 ∨ u < 9218868437227405312
theorem low_fc {N D n : Nat} (hD : 0 < D) (h1 : N < P n) (h2 : D < P n) : Fc (N / Nat.gcd N D) (D / Nat.gcd N D) N D n := by
  have := low_terms N D hD
  exact ⟨this.1, this.2.2, hD, this.2.1, Nat.lt_of_le_of_lt (Nat.div_le_self _ _) h1, Nat.lt_of_le_of_lt (Nat.div_le_self _ _) h2⟩
set_option maxHeartbeats 4000000 in
theorem fromFloat_no (u : Nat) (w : World) (h : ¬ isF u) (hu : u < 18446744073709551616) : Calls Tryz.prog 59 #[.float .f64 u] w (MakesRB w 0 1 false) := by
  have a1 : ¬ u = 9223372036854775808 := fun e => h (.inl e)
  have a2 : ¬ u < 9218868437227405312 := fun e => h (.inr e)
  have d1 : decide (u = 9223372036854775808) = false := decide_eq_false a1
  have d1' : ((u : Int) == 9223372036854775808) = false := by simp; omega
  have d2 : decide (9218868437227405312 ≤ u) = true := decide_eq_true (by omega)
  have d2' : decide ((9218868437227405312 : Int) ≤ (u : Int)) = true := decide_eq_true (by omega)
  clear h a1 a2
  go_enter Tryz.func59, Tryz.ntmps59
  go_wp2_with fail
  refine (bits_any u _).mono ?_
  rintro e w1 ⟨rfl, rfl⟩
  go_wp2_with fail
  exact bodyPost_ret (v := .tuple #[.agg #[.slice none 0 0, .slice none 0 0], .bool false]) (by simp [results, Tryz.results59, go_sem]) rfl ⟨_, rfl, rt_zero _, bel_al (bel_refl w)⟩
set_option maxHeartbeats 4000000 in
theorem fromFloat_zero (w : World) : Calls Tryz.prog 59 #[.float .f64 9223372036854775808] w (MakesRB w 0 1 true) := by
  go_enter Tryz.func59, Tryz.ntmps59
  go_wp2_with fail
  refine (bits_any 9223372036854775808 _).mono ?_
  rintro e w1 ⟨rfl, rfl⟩
  go_wp2_with fail
  exact bodyPost_ret (v := .tuple #[.agg #[.slice none 0 0, .slice none 0 0], .bool true]) (by simp [results, Tryz.results59, go_sem]) rfl ⟨_, rfl, rt_zero _, bel_al (bel_refl w)⟩
theorem inUnits_at (v u : Value) (m f : Nat) (s : Int) (w : World) (h : IsNat w v m) (k : IsNat w u 1) (hm : Fits m) (hf : f ≤ 2045) (hs : s = 1074 - (f : Int)) :
    Calls Tryz.prog 90 #[v, u, .int .i64 s] w (Makes2N w (m * 2 ^ (f - 1074)) (2 ^ (1074 - f))) := by
  by_cases h1 : 1074 < f
  · have := inUnits_neg v u m 1 (f - 1074) s w h k hm (by omega) (by omega) (by omega)
    rw [show 1074 - f = 0 by omega]
    exact this
  · have := inUnits_pos v u m 1 (1074 - f) s w h k (fits_P (n := 1) (by rw [P_one]; omega) (by omega)) (by omega) (by omega)
    rw [show f - 1074 = 0 by omega, Nat.pow_zero, Nat.mul_one]
    rw [Nat.one_mul] at this
    exact this
set_option maxHeartbeats 4000000 in
theorem fromFloat_yes (u : Nat) (w : World) (h : u < 9218868437227405312) (hT : Tab w) : Calls Tryz.prog 59 #[.float .f64 u] w (MakesRB w (fN u / Nat.gcd (fN u) (fD u)) (fD u / Nat.gcd (fN u) (fD u)) true) := by
  have d1 : decide (u = 9223372036854775808) = false := decide_eq_false (by omega)
  have d1' : ((u : Int) == 9223372036854775808) = false := by simp; omega
  have d2 : decide (9218868437227405312 ≤ u) = false := decide_eq_false (by omega)
  have d2' : decide ((9218868437227405312 : Int) ≤ (u : Int)) = false := decide_eq_false (by omega)
  have HT : Hid (Tab w ∧ u < 9218868437227405312) := ⟨hT, h⟩
  have S1 : Hid _ := (sx_start w).box (.slice none 0 0) (.slice none 0 0) 46 _ rfl
  have f6 : (w.alloc (.cells #[.slice none 0 0, .slice none 0 0] 46)).frozen? ⟨w.heap.size, 0, none⟩ = false := by simp [go_sem]
  have f7 : (w.alloc (.cells #[.slice none 0 0, .slice none 0 0] 46)).frozen? ⟨w.heap.size, 1, none⟩ = false := by simp [go_sem]
  have FZ : Hid _ := And.intro f6 f7
  obtain ⟨m0, e0⟩ : ∃ m0 : Nat, m0 = u % 4503599627370496 := ⟨_, rfl⟩
  obtain ⟨x0, ex⟩ : ∃ x0 : Nat, x0 = u / 4503599627370496 := ⟨_, rfl⟩
  have r1 : (u : Int) % 4503599627370496 = (m0 : Int) := by omega
  have r2 : (u : Int) / 4503599627370496 = (x0 : Int) := by omega
  have r3 : IntKind.i64.wrap (x0 : Int) = (x0 : Int) := by rw [IntKind.wrap_i64]; omega
  have hfm : fm u = if x0 = 0 then m0 else m0 + 4503599627370496 := by unfold fm; rw [← e0, ← ex]
  have hfe : fe u = x0 - 1 := by unfold fe; rw [← ex]
  have sN : RS (fN u) := ⟨P_up (fN_lt h) (by omega)⟩
  have sD : RS (fD u) := ⟨P_up (fD_lt u) (by omega)⟩
  have hm0 : m0 < 4503599627370496 := by omega
  have hx0 : x0 ≤ 2046 := by omega
  clear hT f6 f7 e0 ex
  go_enter Tryz.func59, Tryz.ntmps59
  go_wp2_with fail
  refine (bits_any u _).mono ?_
  rintro e w1 ⟨rfl, rfl⟩
  clear h
  by_cases h0 : 0 < x0
  · obtain ⟨m, em⟩ : ∃ m : Nat, m = m0 + 4503599627370496 := ⟨_, rfl⟩
    obtain ⟨f, ef⟩ : ∃ f : Nat, f = x0 - 1 := ⟨_, rfl⟩
    have r4 : (m0 : Int) + 4503599627370496 = (m : Int) := by omega
    have r5 : wrap64 ((x0 : Int) - 1) = (f : Int) := by rw [IntWalk.wrap64_in _ ⟨by omega, by omega⟩]; omega
    obtain ⟨s, es⟩ : ∃ s : Int, s = -1074 + (f : Int) := ⟨_, rfl⟩
    have r6 : wrap64 (-1074 + (f : Int)) = s := by rw [IntWalk.wrap64_in _ ⟨by omega, by omega⟩]; omega
    obtain ⟨s2, es2⟩ : ∃ s2 : Int, s2 = -s := ⟨_, rfl⟩
    have r7 : wrap64 (-s) = s2 := by rw [IntWalk.wrap64_in _ ⟨by omega, by omega⟩]; omega
    have r8 : IntKind.i64.wrap (-s) = s2 := by rw [IntKind.wrap_i64]; omega
    have eN : m * 2 ^ (f - 1074) = fN u := by unfold fN; rw [hfm, hfe, if_neg (by omega), ← em, ← ef]
    have eD : 2 ^ (1074 - f) = fD u := by unfold fD; rw [hfe, ← ef]
    have HF : Hid (m < 9007199254740992 ∧ f ≤ 2045 ∧ s2 = 1074 - (f : Int) ∧ (m * 2 ^ (f - 1074) = fN u ∧ 2 ^ (1074 - f) = fD u) ∧ RS (m * 2 ^ (f - 1074)) ∧ RS (2 ^ (1074 - f))) := ⟨by omega, by omega, by omega, ⟨eN, eD⟩, by rw [eN]; exact sN, by rw [eD]; exact sD⟩
    clear em ef es es2 eN eD hfm hfe sN sD hm0 hx0
    go_wp2_with fail
    refine (of_any m _ (by have := HF.out; omega)).mono ?_
    rintro e w2 ⟨v2, rfl, hv2, hb2⟩
    have FZ2 : Hid (w2.frozen? ⟨w.heap.size, 0, none⟩ = false ∧ w2.frozen? ⟨w.heap.size, 1, none⟩ = false) := ⟨(hb2.frozen (World.block_lt_of_cell? _ _ (S1.out.cel w.heap.size 0 (.slice none 0 0)))).trans FZ.out.1, (hb2.frozen (World.block_lt_of_cell? _ _ (S1.out.cel w.heap.size 1 (.slice none 0 0)))).trans FZ.out.2⟩
    have S2 : Hid _ := (S1.out.go hb2).addN hv2
    clear hv2 hb2 S1
    go_wp2_with fail
    refine (of_any 1 _ (by omega)).mono ?_
    rintro e w3 ⟨v3, rfl, hv3, hb3⟩
    have FZ3 : Hid (w3.frozen? ⟨w.heap.size, 0, none⟩ = false ∧ w3.frozen? ⟨w.heap.size, 1, none⟩ = false) := ⟨(hb3.frozen (World.block_lt_of_cell? _ _ (S2.out.cel w.heap.size 0 (.slice none 0 0)))).trans FZ2.out.1, (hb3.frozen (World.block_lt_of_cell? _ _ (S2.out.cel w.heap.size 1 (.slice none 0 0)))).trans FZ2.out.2⟩
    have S3 : Hid _ := (S2.out.go hb3).addN hv3
    clear hv3 hb3 S2
    go_wp2_with fail
    refine (inUnits_at v2 v3 m f _ _ (S3.out.at v2 m) (S3.out.at v3 1) (fits_P (n := 1) (by rw [P_one]; have := HF.out; omega) (by omega)) (by have := HF.out; omega) HF.out.2.2.1).mono ?_
    rintro e w4 ⟨v4, v5, rfl, hv4, hv5, hb4⟩
    have FZ4 : Hid (w4.frozen? ⟨w.heap.size, 0, none⟩ = false ∧ w4.frozen? ⟨w.heap.size, 1, none⟩ = false) := ⟨(hb4.frozen (World.block_lt_of_cell? _ _ (S3.out.cel w.heap.size 0 (.slice none 0 0)))).trans FZ3.out.1, (hb4.frozen (World.block_lt_of_cell? _ _ (S3.out.cel w.heap.size 1 (.slice none 0 0)))).trans FZ3.out.2⟩
    have S4 : Hid _ := ((S3.out.go hb4).addN hv4).addN hv5
    clear hv4 hv5 hb4 S3
    go_wp2_with fail
    refine (from_any v4 v5 _ _ w4 (S4.out.at v4 (m * 2 ^ (f - 1074))) (S4.out.at v5 (2 ^ (1074 - f))) HF.out.2.2.2.2.1 HF.out.2.2.2.2.2 (Nat.two_pow_pos _) (HT.out.1.go S4.out.bel)).mono ?_
    rintro e w5 ⟨v6, rfl, hv, hb⟩
    obtain ⟨a6, n6, k6, a7, n7, k7, ev, _, _⟩ := hv.raw
    subst ev
    rw [HF.out.2.2.2.1.1, HF.out.2.2.2.1.2] at hv
    have z0 := cell_later hb (S4.out.cel w.heap.size 0 (.slice none 0 0))
    have z1 := cell_later hb (S4.out.cel w.heap.size 1 (.slice none 0 0))
    have u0 : w5.frozen? ⟨w.heap.size, 0, none⟩ = false := (hb.frozen (World.block_lt_of_cell? _ _ (S4.out.cel w.heap.size 0 (.slice none 0 0)))).trans FZ4.out.1
    have u1 : w5.frozen? ⟨w.heap.size, 1, none⟩ = false := (hb.frozen (World.block_lt_of_cell? _ _ (S4.out.cel w.heap.size 1 (.slice none 0 0)))).trans FZ4.out.2
    have Z : Hid _ := rat_put (v := .slice a6 n6 k6) (u := .slice a7 n7 k7) z0 z1 hv (bel_go S4.out.bel hb) (Nat.le_refl _)
    clear hv hb S4
    go_wp2_with fail
    exact bodyPost_ret (v := .tuple #[.agg #[.slice a6 n6 k6, .slice a7 n7 k7], .bool true]) (by simp [results, Tryz.results59, go_sem, z0, z1]) rfl ⟨_, rfl, Z.out.1, Z.out.2⟩
  · have x00 : x0 = 0 := by omega
    obtain ⟨f, ef⟩ : ∃ f : Nat, f = 0 := ⟨_, rfl⟩
    have eN : m0 * 2 ^ (f - 1074) = fN u := by unfold fN; rw [hfm, hfe, if_pos x00, x00, ef]
    have eD : 2 ^ (1074 - f) = fD u := by unfold fD; rw [hfe, show x0 - 1 = f by omega]
    have HF : Hid (m0 < 9007199254740992 ∧ f ≤ 2045 ∧ (1074 : Int) = 1074 - (f : Int) ∧ (m0 * 2 ^ (f - 1074) = fN u ∧ 2 ^ (1074 - f) = fD u) ∧ RS (m0 * 2 ^ (f - 1074)) ∧ RS (2 ^ (1074 - f))) := ⟨by omega, by omega, by omega, ⟨eN, eD⟩, by rw [eN]; exact sN, by rw [eD]; exact sD⟩
    clear ef x00 eN eD hfm hfe sN sD hm0 hx0
    go_wp2_with fail
    refine (of_any m0 _ (by have := HF.out; omega)).mono ?_
    rintro e w2 ⟨v2, rfl, hv2, hb2⟩
    have FZ2 : Hid (w2.frozen? ⟨w.heap.size, 0, none⟩ = false ∧ w2.frozen? ⟨w.heap.size, 1, none⟩ = false) := ⟨(hb2.frozen (World.block_lt_of_cell? _ _ (S1.out.cel w.heap.size 0 (.slice none 0 0)))).trans FZ.out.1, (hb2.frozen (World.block_lt_of_cell? _ _ (S1.out.cel w.heap.size 1 (.slice none 0 0)))).trans FZ.out.2⟩
    have S2 : Hid _ := (S1.out.go hb2).addN hv2
    clear hv2 hb2 S1
    go_wp2_with fail
    refine (of_any 1 _ (by omega)).mono ?_
    rintro e w3 ⟨v3, rfl, hv3, hb3⟩
    have FZ3 : Hid (w3.frozen? ⟨w.heap.size, 0, none⟩ = false ∧ w3.frozen? ⟨w.heap.size, 1, none⟩ = false) := ⟨(hb3.frozen (World.block_lt_of_cell? _ _ (S2.out.cel w.heap.size 0 (.slice none 0 0)))).trans FZ2.out.1, (hb3.frozen (World.block_lt_of_cell? _ _ (S2.out.cel w.heap.size 1 (.slice none 0 0)))).trans FZ2.out.2⟩
    have S3 : Hid _ := (S2.out.go hb3).addN hv3
    clear hv3 hb3 S2
    go_wp2_with fail
    refine (inUnits_at v2 v3 m0 f _ _ (S3.out.at v2 m0) (S3.out.at v3 1) (fits_P (n := 1) (by rw [P_one]; have := HF.out; omega) (by omega)) (by have := HF.out; omega) HF.out.2.2.1).mono ?_
    rintro e w4 ⟨v4, v5, rfl, hv4, hv5, hb4⟩
    have FZ4 : Hid (w4.frozen? ⟨w.heap.size, 0, none⟩ = false ∧ w4.frozen? ⟨w.heap.size, 1, none⟩ = false) := ⟨(hb4.frozen (World.block_lt_of_cell? _ _ (S3.out.cel w.heap.size 0 (.slice none 0 0)))).trans FZ3.out.1, (hb4.frozen (World.block_lt_of_cell? _ _ (S3.out.cel w.heap.size 1 (.slice none 0 0)))).trans FZ3.out.2⟩
    have S4 : Hid _ := ((S3.out.go hb4).addN hv4).addN hv5
    clear hv4 hv5 hb4 S3
    go_wp2_with fail
    refine (from_any v4 v5 _ _ w4 (S4.out.at v4 (m0 * 2 ^ (f - 1074))) (S4.out.at v5 (2 ^ (1074 - f))) HF.out.2.2.2.2.1 HF.out.2.2.2.2.2 (Nat.two_pow_pos _) (HT.out.1.go S4.out.bel)).mono ?_
    rintro e w5 ⟨v6, rfl, hv, hb⟩
    obtain ⟨a6, n6, k6, a7, n7, k7, ev, _, _⟩ := hv.raw
    subst ev
    rw [HF.out.2.2.2.1.1, HF.out.2.2.2.1.2] at hv
    have z0 := cell_later hb (S4.out.cel w.heap.size 0 (.slice none 0 0))
    have z1 := cell_later hb (S4.out.cel w.heap.size 1 (.slice none 0 0))
    have u0 : w5.frozen? ⟨w.heap.size, 0, none⟩ = false := (hb.frozen (World.block_lt_of_cell? _ _ (S4.out.cel w.heap.size 0 (.slice none 0 0)))).trans FZ4.out.1
    have u1 : w5.frozen? ⟨w.heap.size, 1, none⟩ = false := (hb.frozen (World.block_lt_of_cell? _ _ (S4.out.cel w.heap.size 1 (.slice none 0 0)))).trans FZ4.out.2
    have Z : Hid _ := rat_put (v := .slice a6 n6 k6) (u := .slice a7 n7 k7) z0 z1 hv (bel_go S4.out.bel hb) (Nat.le_refl _)
    clear hv hb S4
    go_wp2_with fail
    exact bodyPost_ret (v := .tuple #[.agg #[.slice a6 n6 k6, .slice a7 n7 k7], .bool true]) (by simp [results, Tryz.results59, go_sem, z0, z1]) rfl ⟨_, rfl, Z.out.1, Z.out.2⟩
end Go.Proofs.YtdmkneojhnhomaaGreatDoor
namespace Go.Proofs.YtdmkneojhnhomaaGreatDoor
open Go.RowKit
set_option maxRecDepth 100000
set_option linter.unusedVariables false
theorem from_nz (u : Nat) (h : isF u) : ∃ A C, Fc A C (fN (nz u)) (fD (nz u)) 17 ∧ ∀ w, Tab w → Calls Tryz.prog 59 #[.float .f64 u] w (MakesRB w A C true) := by
  by_cases e : u = 9223372036854775808
  · have e0 : nz u = 0 := if_pos e
    have e1 : fN 0 = 0 := by
      have : fm 0 = 0 := by decide
      unfold fN
      rw [this, Nat.zero_mul]
    refine ⟨0, 1, ⟨Nat.gcd_one_right _, by omega, fD_pos _, ?_, P_pos _, P_lt (by omega : 0 < 17)⟩, fun w _ => ?_⟩
    · rw [e0, e1, Nat.zero_mul, Nat.zero_mul]
    · rw [e]
      exact fromFloat_zero w
  · have h1 : u < 9218868437227405312 := h.resolve_left e
    have e0 : nz u = u := if_neg e
    rw [e0]
    exact ⟨_, _, low_fc (fD_pos u) (P_up (fN_lt h1) (by omega)) (fD_lt u), fun w hT => fromFloat_yes u w h1 hT⟩
theorem heap_new (w : World) (o : Obj) : (w.alloc o).heap[w.heap.size]? = some o := by
  show (w.heap.push o)[w.heap.size]? = some o
  simp
/-- A number is above the greatest rate. -/
def gtM (u : Nat) : Bool := FloatKind.f64.format.order u 4697254411347427328 == some .gt
/-- A rate's parts. -/
def rP (u per : Nat) : Nat := fN (nz u) / Nat.gcd (fN (nz u)) (fD (nz u) * per)
def rQ (u per : Nat) : Nat := fD (nz u) * per / Nat.gcd (fN (nz u)) (fD (nz u) * per)
theorem nz_lt {u : Nat} (h : isF u) : nz u < 9218868437227405312 := by
  unfold nz
  rcases h with e | e
  · rw [if_pos e]
    omega
  · split <;> omega
theorem rate_fc {u per : Nat} (h : isF u) (h1 : 1 ≤ per) (h2 : per ≤ 1073741824) : Fc (rP u per) (rQ u per) (fN (nz u)) (fD (nz u) * per) 18 := by
  refine low_fc (Nat.mul_pos (fD_pos _) (by omega)) (P_up (fN_lt (nz_lt h)) (by omega)) ?_
  have h3 : fD (nz u) * per < P 17 * P 1 := Nat.mul_lt_mul'' (fD_lt _) (by rw [P_one]; omega)
  rw [← P_add] at h3
  exact h3
theorem rP_lt {u per : Nat} (h : isF u) : rP u per < P 17 := Nat.lt_of_le_of_lt (Nat.div_le_self _ _) (P_up (fN_lt (nz_lt h)) (by omega))
set_option maxHeartbeats 4000000 in
theorem aTick_yes (u per : Nat) (w : World) (hg : gtM u = false) (h1 : 1 ≤ per) (h2 : per ≤ 1073741824) (hF : isF u) (hT : Tab w) : Calls Tryz.prog 33 #[.float .f64 u, .int .i64 (per : Int)] w (MakesRB w (rP u per) (rQ u per) true) := by
  obtain ⟨A, C, fa, fr⟩ := from_nz u hF
  obtain ⟨A2, C2, fb, dv⟩ := fa.divInt (by omega) (k := per) (by omega) (by omega)
  obtain ⟨e1, e2⟩ := fb.one (rate_fc hF h1 h2)
  subst e1 e2
  have FR : Hid (∀ w, Tab w → Calls Tryz.prog 59 #[.float .f64 u] w (MakesRB w A C true)) := fr
  have DV : Hid (∀ v w, Rt w v A C → Tab w → Calls Tryz.prog 60 #[v, .int .i64 (per : Int)] w (MakesRB w (rP u per) (rQ u per) true)) := dv
  have HT : Hid (Tab w) := hT
  have S1 : Hid _ := (sx_start w).box (.slice none 0 0) (.slice none 0 0) 46 _ rfl
  have f6 : (w.alloc (.cells #[.slice none 0 0, .slice none 0 0] 46)).frozen? ⟨w.heap.size, 0, none⟩ = false := by simp [go_sem]
  have f7 : (w.alloc (.cells #[.slice none 0 0, .slice none 0 0] 46)).frozen? ⟨w.heap.size, 1, none⟩ = false := by simp [go_sem]
  have FZ : Hid _ := And.intro f6 f7
  have g1 : (FloatKind.f64.format.order u 4697254411347427328 == some .gt) = false := hg
  have d1 : decide ((per : Int) < 1) = false := decide_eq_false (by omega)
  have d2 : decide ((1073741824 : Int) < (per : Int)) = false := decide_eq_false (by omega)
  clear fa fr fb dv hT f6 f7 hg hF
  go_enter Tryz.func33, Tryz.ntmps33
  go_wp2_with fail
  refine (FR.out _ (HT.out.go S1.out.bel)).mono ?_
  rintro e w7 ⟨v7, rfl, hv, hb⟩
  obtain ⟨a7, n7, c7, a8, n8, c8, ev, _, _⟩ := hv.raw
  subst ev
  have hbb := bel_go hb (bel_al (o := .cells #[.slice a7 n7 c7, .slice a8 n8 c8] 46) (bel_refl _))
  have FZ : Hid ((w7.alloc (.cells #[.slice a7 n7 c7, .slice a8 n8 c8] 46)).frozen? ⟨w.heap.size, 0, none⟩ = false ∧ (w7.alloc (.cells #[.slice a7 n7 c7, .slice a8 n8 c8] 46)).frozen? ⟨w.heap.size, 1, none⟩ = false) := ⟨(hbb.frozen (World.block_lt_of_cell? _ _ (S1.out.cel w.heap.size 0 (.slice none 0 0)))).trans FZ.out.1, (hbb.frozen (World.block_lt_of_cell? _ _ (S1.out.cel w.heap.size 1 (.slice none 0 0)))).trans FZ.out.2⟩
  have S3 : Hid _ := ((S1.out.go hb).addF hv).box (.slice a7 n7 c7) (.slice a8 n8 c8) 46 _ rfl
  clear hv hb hbb S1
  go_wp2_with fail
  refine (DV.out _ _ (S3.out.fr (.agg #[.slice a7 n7 c7, .slice a8 n8 c8]) A C) (HT.out.go S3.out.bel)).mono ?_
  rintro e w13 ⟨v13, rfl, hv, hb⟩
  obtain ⟨p7, q7, r7, p8, q8, r8, ev, _, _⟩ := hv.raw
  subst ev
  have x0 := cell_later hb (S3.out.cel w.heap.size 0 (.slice none 0 0))
  have x1 := cell_later hb (S3.out.cel w.heap.size 1 (.slice none 0 0))
  have f0 : w13.frozen? ⟨w.heap.size, 0, none⟩ = false := (hb.frozen (World.block_lt_of_cell? _ _ (S3.out.cel w.heap.size 0 (.slice none 0 0)))).trans FZ.out.1
  have f1 : w13.frozen? ⟨w.heap.size, 1, none⟩ = false := (hb.frozen (World.block_lt_of_cell? _ _ (S3.out.cel w.heap.size 1 (.slice none 0 0)))).trans FZ.out.2
  have ZZ : Hid _ := rat_put (w0 := w) (v := .slice p7 q7 r7) (u := .slice p8 q8 r8) x0 x1 hv (bel_go S3.out.bel hb) (Nat.le_refl _)
  clear hv hb S3 FZ
  go_wp2_with fail
  exact bodyPost_ret (v := .tuple #[.agg #[.slice p7 q7 r7, .slice p8 q8 r8], .bool true]) (by simp [results, Tryz.results33, go_sem, x0, x1]) rfl ⟨_, rfl, ZZ.out.1, ZZ.out.2⟩
/-- A rate that may be. -/
def rateOk (u : Nat) (per : Int) : Prop := gtM u = false ∧ 1 ≤ per ∧ per ≤ 1073741824 ∧ isF u
set_option maxHeartbeats 4000000 in
theorem aTick_no (u : Nat) (per : Int) (w : World) (h : ¬ rateOk u per) (hu : u < 18446744073709551616) : Calls Tryz.prog 33 #[.float .f64 u, .int .i64 per] w (MakesRB w 0 1 false) := by
  by_cases hg : gtM u = true
  · have g1 : (FloatKind.f64.format.order u 4697254411347427328 == some .gt) = true := hg
    clear hg h
    go_enter Tryz.func33, Tryz.ntmps33
    go_wp2_with fail
    exact bodyPost_ret (v := .tuple #[.agg #[.slice none 0 0, .slice none 0 0], .bool false]) (by simp [results, Tryz.results33, go_sem]) rfl ⟨_, rfl, rt_zero _, bel_al (bel_refl w)⟩
  · have g0 : gtM u = false := by simpa using hg
    have g1 : (FloatKind.f64.format.order u 4697254411347427328 == some .gt) = false := g0
    by_cases h1 : per < 1
    · have d1 : decide (per < 1) = true := decide_eq_true h1
      clear hg h g0 h1
      go_enter Tryz.func33, Tryz.ntmps33
      go_wp2_with fail
      exact bodyPost_ret (v := .tuple #[.agg #[.slice none 0 0, .slice none 0 0], .bool false]) (by simp [results, Tryz.results33, go_sem]) rfl ⟨_, rfl, rt_zero _, bel_al (bel_refl w)⟩
    · have d1 : decide (per < 1) = false := decide_eq_false h1
      by_cases h2 : 1073741824 < per
      · have d2 : decide ((1073741824 : Int) < per) = true := decide_eq_true h2
        clear hg h g0 h1 h2
        go_enter Tryz.func33, Tryz.ntmps33
        go_wp2_with fail
        exact bodyPost_ret (v := .tuple #[.agg #[.slice none 0 0, .slice none 0 0], .bool false]) (by simp [results, Tryz.results33, go_sem]) rfl ⟨_, rfl, rt_zero _, bel_al (bel_refl w)⟩
      · have d2 : decide ((1073741824 : Int) < per) = false := decide_eq_false h2
        have hF : ¬ isF u := fun e => h ⟨g0, by omega, by omega, e⟩
        have ba : Hid (Below w.heap.size w (w.alloc (.cells #[.slice none 0 0, .slice none 0 0] 46))) := bel_al (bel_refl w)
        have x0 : (w.alloc (.cells #[.slice none 0 0, .slice none 0 0] 46)).cell? ⟨w.heap.size, 0, none⟩ = some (.slice none 0 0) := by simp [go_sem]
        have x1 : (w.alloc (.cells #[.slice none 0 0, .slice none 0 0] 46)).cell? ⟨w.heap.size, 1, none⟩ = some (.slice none 0 0) := by simp [go_sem]
        have f6 : (w.alloc (.cells #[.slice none 0 0, .slice none 0 0] 46)).frozen? ⟨w.heap.size, 0, none⟩ = false := by simp [go_sem]
        have f7 : (w.alloc (.cells #[.slice none 0 0, .slice none 0 0] 46)).frozen? ⟨w.heap.size, 1, none⟩ = false := by simp [go_sem]
        have FN : Hid (∀ w, Calls Tryz.prog 59 #[.float .f64 u] w (MakesRB w 0 1 false)) := fun w => fromFloat_no u w hF hu
        clear hg h g0 h1 h2 hF
        go_enter Tryz.func33, Tryz.ntmps33
        go_wp2_with fail
        refine (FN.out _).mono ?_
        rintro e w7 ⟨v7, rfl, hv, hb⟩
        obtain ⟨a7, n7, c7, a8, n8, c8, ev, _, _⟩ := hv.raw
        subst ev
        have hbb := bel_go hb (bel_al (o := .cells #[.slice a7 n7 c7, .slice a8 n8 c8] 46) (bel_refl _))
        have z0 := cell_later hbb x0
        have z1 := cell_later hbb x1
        have y0 := (hbb.frozen (World.block_lt_of_cell? _ _ x0)).trans f6
        have y1 := (hbb.frozen (World.block_lt_of_cell? _ _ x1)).trans f7
        have ZZ : Hid _ := rat_put (w0 := w) (v := .slice none 0 0) (u := .slice none 0 0) z0 z1 (rt_zero _) (bel_go ba.out hbb) (Nat.le_refl _)
        clear hv hb hbb x0 x1 f6 f7
        go_wp2_with fail
        exact bodyPost_ret (v := .tuple #[.agg #[.slice none 0 0, .slice none 0 0], .bool false]) (by simp [results, Tryz.results33, go_sem, z0, z1]) rfl ⟨_, rfl, ZZ.out.1, ZZ.out.2⟩
/-- New tells an error. -/
def NewNo (w : World) (n : Int) (e : Ending) (w' : World) : Prop := e = .returned (.tuple #[.pointer none, .int .i64 n]) ∧ Below w.heap.size w w'
set_option maxHeartbeats 4000000 in
theorem bnew_burst (B : Int) (u : Nat) (per t : Int) (w : World) (h : B < 1 ∨ 1099511627776 < B) : Calls Tryz.prog 9 #[.int .i64 B, .float .f64 u, .int .i64 per, .int .i64 t] w (NewNo w 97) := by
  by_cases h1 : B < 1
  · have d1 : decide (B < 1) = true := decide_eq_true h1
    clear h h1
    go_enter Tryz.func9, Tryz.ntmps9
    go_wp2_with fail
    exact bodyPost_ret (v := .tuple #[.pointer none, .int .i64 97]) (by simp [results, Tryz.results9, go_sem]) rfl ⟨rfl, bel_refl w⟩
  · have d1 : decide (B < 1) = false := decide_eq_false h1
    have d2 : decide ((1099511627776 : Int) < B) = true := decide_eq_true (h.resolve_left h1)
    clear h h1
    go_enter Tryz.func9, Tryz.ntmps9
    go_wp2_with fail
    exact bodyPost_ret (v := .tuple #[.pointer none, .int .i64 97]) (by simp [results, Tryz.results9, go_sem]) rfl ⟨rfl, bel_refl w⟩
set_option maxHeartbeats 4000000 in
theorem bnew_rate (B : Int) (u : Nat) (per t : Int) (w : World) (h1 : 1 ≤ B) (h2 : B ≤ 1099511627776) (h : ¬ rateOk u per) (hu : u < 18446744073709551616) : Calls Tryz.prog 9 #[.int .i64 B, .float .f64 u, .int .i64 per, .int .i64 t] w (NewNo w 98) := by
  have d1 : decide (B < 1) = false := decide_eq_false (by omega)
  have d2 : decide ((1099511627776 : Int) < B) = false := decide_eq_false (by omega)
  have AN : Hid (∀ w, Calls Tryz.prog 33 #[.float .f64 u, .int .i64 per] w (MakesRB w 0 1 false)) := fun w => aTick_no u per w h hu
  clear h hu
  go_enter Tryz.func9, Tryz.ntmps9
  go_wp2_with fail
  refine (AN.out _).mono ?_
  rintro e w7 ⟨v7, rfl, hv, hb⟩
  obtain ⟨a7, n7, c7, a8, n8, c8, ev, _, _⟩ := hv.raw
  subst ev
  have B7 : Hid (Below w.heap.size w (w7.alloc (.cells #[.slice a7 n7 c7, .slice a8 n8 c8] 46))) := bel_al hb
  clear hv hb
  go_wp2_with fail
  exact bodyPost_ret (v := .tuple #[.pointer none, .int .i64 98]) (by simp [results, Tryz.results9, go_sem]) rfl ⟨rfl, B7.out⟩
set_option maxHeartbeats 4000000 in
theorem bnew_time (B : Int) (u per : Nat) (t : Int) (w : World) (h1 : 1 ≤ B) (h2 : B ≤ 1099511627776) (h : rateOk u (per : Int)) (ht : t < 0 ∨ 4611686018427387904 < t) (hT : Tab w) : Calls Tryz.prog 9 #[.int .i64 B, .float .f64 u, .int .i64 (per : Int), .int .i64 t] w (NewNo w 1) := by
  have d1 : decide (B < 1) = false := decide_eq_false (by omega)
  have d2 : decide ((1099511627776 : Int) < B) = false := decide_eq_false (by omega)
  have AN : Hid (∀ w, Tab w → Calls Tryz.prog 33 #[.float .f64 u, .int .i64 (per : Int)] w (MakesRB w (rP u per) (rQ u per) true)) := fun w hT => aTick_yes u per w h.1 (by have := h.2.1; omega) (by have := h.2.2.1; omega) h.2.2.2 hT
  have HT : Hid (Tab w) := hT
  clear h hT
  go_enter Tryz.func9, Tryz.ntmps9
  go_wp2_with fail
  refine (AN.out _ HT.out).mono ?_
  rintro e w7 ⟨v7, rfl, hv, hb⟩
  obtain ⟨a7, n7, c7, a8, n8, c8, ev, _, _⟩ := hv.raw
  subst ev
  have B7 : Hid (Below w.heap.size w (w7.alloc (.cells #[.slice a7 n7 c7, .slice a8 n8 c8] 46))) := bel_al hb
  clear hv hb
  by_cases h3 : t < 0
  · have d3 : decide (t < 0) = true := decide_eq_true h3
    clear ht h3
    go_wp2_with fail
    exact bodyPost_ret (v := .tuple #[.pointer none, .int .i64 1]) (by simp [results, Tryz.results9, go_sem]) rfl ⟨rfl, B7.out⟩
  · have d3 : decide (t < 0) = false := decide_eq_false h3
    have d4 : decide ((4611686018427387904 : Int) < t) = true := decide_eq_true (ht.resolve_left h3)
    clear ht h3
    go_wp2_with fail
    exact bodyPost_ret (v := .tuple #[.pointer none, .int .i64 1]) (by simp [results, Tryz.results9, go_sem]) rfl ⟨rfl, B7.out⟩
/-- New gives a bucket. -/
def NewYes (w : World) (T R D B : Nat) (e : Ending) (w' : World) : Prop := ∃ b, e = .returned (.tuple #[.pointer (some ⟨b, 0, none⟩), .int .i64 0]) ∧ w.heap.size ≤ b ∧ Bu w' b T 0 R D B ∧ Below w.heap.size w w'
set_option maxHeartbeats 4000000 in
theorem bnew_yes (B u per t : Nat) (w : World) (h1 : 1 ≤ B) (h2 : B ≤ 1099511627776) (h : rateOk u (per : Int)) (ht : t ≤ 4611686018427387904) (hT : Tab w) : Calls Tryz.prog 9 #[.int .i64 (B : Int), .float .f64 u, .int .i64 (per : Int), .int .i64 (t : Int)] w (NewYes w t (rP u per) (rQ u per) B) := by
  have d1 : decide ((B : Int) < 1) = false := decide_eq_false (by omega)
  have d2 : decide ((1099511627776 : Int) < (B : Int)) = false := decide_eq_false (by omega)
  have d3 : decide ((t : Int) < 0) = false := decide_eq_false (by omega)
  have d4 : decide ((4611686018427387904 : Int) < (t : Int)) = false := decide_eq_false (by omega)
  have AN : Hid (∀ w, Tab w → Calls Tryz.prog 33 #[.float .f64 u, .int .i64 (per : Int)] w (MakesRB w (rP u per) (rQ u per) true)) := fun w hT => aTick_yes u per w h.1 (by have := h.2.1; omega) (by have := h.2.2.1; omega) h.2.2.2 hT
  have rf := rate_fc h.2.2.2 (per := per) (by have := h.2.1; omega) (by have := h.2.2.1; omega)
  obtain ⟨R, eR⟩ : ∃ R, R = rP u per := ⟨_, rfl⟩
  obtain ⟨D, eD⟩ : ∃ D, D = rQ u per := ⟨_, rfl⟩
  have RL := rP_lt (per := per) h.2.2.2
  rw [← eR, ← eD] at rf AN ⊢
  rw [← eR] at RL
  have HR : Hid (Nat.gcd R D = 1 ∧ 0 < D ∧ D < P 18 ∧ R < P 17 ∧ 1 ≤ B ∧ B ≤ 1099511627776 ∧ t ≤ 4611686018427387904) := ⟨rf.low, rf.pos, rf.s2, RL, h1, h2, ht⟩
  have HT : Hid (Tab w) := hT
  clear h hT rf eR eD RL h1 h2
  go_enter Tryz.func9, Tryz.ntmps9
  go_wp2_with fail
  refine (AN.out _ HT.out).mono ?_
  rintro e w7 ⟨v7, rfl, hv, hb⟩
  obtain ⟨a7, n7, c7, a8, n8, c8, ev, _, _⟩ := hv.raw
  subst ev
  have S1 : Hid _ := (((sx_start w).go hb).addF hv).box (.slice a7 n7 c7) (.slice a8 n8 c8) 46 _ rfl
  clear hv hb
  go_wp2_with fail
  obtain ⟨w8, hw⟩ : ∃ w8, w8 = w7.alloc (.cells #[.slice a7 n7 c7, .slice a8 n8 c8] 46) := ⟨_, rfl⟩
  obtain ⟨g, hg⟩ : ∃ g, g = w7.heap.size := ⟨_, rfl⟩
  rw [← hw, ← hg] at S1
  rw [← hw, ← hg]
  clear hw hg
  have z0 := S1.out.cel g 0 (.slice a7 n7 c7)
  have z1 := S1.out.cel g 1 (.slice a8 n8 c8)
  go_region_held3 (fun w' => w'.cell? ⟨g, 0, none⟩ = some (.slice a7 n7 c7) ∧ w'.cell? ⟨g, 1, none⟩ = some (.slice a8 n8 c8)) (first | (simp [go_sem, *]; done) | (trace_state; fail))
    (first
      | (go_at_call 34; refine Calls.mono (whole_any B _ (by have := HR.out; omega) (HT.out.go (bel_go S1.out.bel (by first | exact bel_refl _ | exact bel_dr (bel_refl _))))) ?_; rintro e w9 ⟨v9, rfl, hv9, hb9⟩; have hb9 : Below w8.heap.size w8 w9 := (by first | exact hb9 | exact bel_undrew hb9); obtain ⟨a9, n9, c9, a10, n10, c10, ev, _, _⟩ := hv9.raw; subst ev; have S2 : Hid _ := (S1.out.go hb9).addF hv9; have z2 := S2.out.cel g 0 (.slice a7 n7 c7); have z3 := S2.out.cel g 1 (.slice a8 n8 c8); have lg : g < w9.heap.size := World.block_lt_of_cell? _ _ z2; have lg2 : ¬ g = w9.heap.size := (by omega); clear hv9 hb9))
  have ba := bel_al (o := (.cells #[.int .i64 (t : Int), .slice none 0 0, .slice none 0 0, .slice a9 n9 c9, .slice a10 n10 c10, .slice a7 n7 c7, .slice a8 n8 c8] 81)) (bel_refl w9)
  have hk : (w9.alloc (.cells #[.int .i64 (t : Int), .slice none 0 0, .slice none 0 0, .slice a9 n9 c9, .slice a10 n10 c10, .slice a7 n7 c7, .slice a8 n8 c8] 81)).heap[w9.heap.size]? = some (.cells #[.int .i64 (t : Int), .slice none 0 0, .slice none 0 0, .slice a9 n9 c9, .slice a10 n10 c10, .slice a7 n7 c7, .slice a8 n8 c8] 81) := heap_new _ _
  have ZB : Hid (w.heap.size ≤ w9.heap.size ∧ Bu (w9.alloc (.cells #[.int .i64 (t : Int), .slice none 0 0, .slice none 0 0, .slice a9 n9 c9, .slice a10 n10 c10, .slice a7 n7 c7, .slice a8 n8 c8] 81)) w9.heap.size t 0 R D B ∧ Below w.heap.size w (w9.alloc (.cells #[.int .i64 (t : Int), .slice none 0 0, .slice none 0 0, .slice a9 n9 c9, .slice a10 n10 c10, .slice a7 n7 c7, .slice a8 n8 c8] 81))) := by
    refine ⟨S2.out.bel.size, ⟨⟨⟨0, 1, _, _, _, _, _, _, hk, rt_zero _, ⟨by simp, by omega, HR.out.2.1, by rw [Nat.zero_mul, Nat.zero_mul], P_pos _, P_lt (by omega : 0 < 20)⟩, (S2.out.fr (.agg #[.slice a9 n9 c9, .slice a10 n10 c10]) B 1).mono ba, (S2.out.fr (.agg #[.slice a7 n7 c7, .slice a8 n8 c8]) R D).mono ba⟩, HR.out.2.2.2.2.2.2, ⟨HR.out.2.2.2.2.1, HR.out.2.2.2.2.2.1⟩, ⟨HR.out.2.1, HR.out.2.2.1⟩, HR.out.2.2.2.1, HR.out.1⟩, Nat.zero_le _⟩, bel_go S2.out.bel ba⟩
  clear ba hk S1 S2 z0 z1 z2 z3 lg lg2
  go_wp2_with fail
  exact bodyPost_ret (v := .tuple #[.pointer (some ⟨w9.heap.size, 0, none⟩), .int .i64 0]) (by simp [results, Tryz.results9, go_sem]) rfl ⟨_, rfl, ZB.out.1, ZB.out.2.1, ZB.out.2.2⟩
end Go.Proofs.YtdmkneojhnhomaaGreatDoor
namespace Go.Proofs.YtdmkneojhnhomaaGreatDoor
open Go.RowKit
set_option maxRecDepth 100000
set_option linter.unusedVariables false
/-- What few tells. -/
def fewN (n : Int) (m : Nat) : Nat := (if n < 0 then -(n + 1) else n).toNat % (m + 1)
theorem fewN_le (n : Int) (m : Nat) : fewN n m ≤ m := by
  have := Nat.mod_lt (if n < 0 then -(n + 1) else n).toNat (Nat.succ_pos m)
  unfold fewN
  rw [Nat.succ_eq_add_one] at this
  omega
set_option maxHeartbeats 1000000 in
theorem few_any (n : Int) (m : Nat) (w : World) (h1 : -9223372036854775808 ≤ n) (h2 : n ≤ 9223372036854775807) (hm : m ≤ 9223372036854775806) : Calls Tryz.prog 20 #[.int .i64 n, .int .i64 (m : Int)] w fun e w' => e = .returned (.int .i64 ((fewN n m : Nat) : Int)) ∧ w' = w := by
  obtain ⟨m1, em⟩ : ∃ m1 : Nat, m1 = m + 1 := ⟨_, rfl⟩
  have r1 : wrap64 ((m : Int) + 1) = (m1 : Int) := by rw [IntWalk.wrap64_in _ ⟨by omega, by omega⟩]; omega
  have hz : ¬ (m1 : Int) = 0 := by omega
  have hz2 : ¬ m1 = 0 := by omega
  by_cases h : n < 0
  · obtain ⟨k, ek⟩ : ∃ k : Nat, (k : Int) = -(n + 1) := ⟨(-(n + 1)).toNat, by omega⟩
    have d1 : decide (n < 0) = true := decide_eq_true h
    obtain ⟨n1, e1⟩ : ∃ n1 : Int, n1 = n + 1 := ⟨_, rfl⟩
    have r2 : wrap64 (n + 1) = n1 := by rw [IntWalk.wrap64_in _ ⟨by omega, by omega⟩]; omega
    have r3 : wrap64 (-n1) = (k : Int) := by rw [IntWalk.wrap64_in _ ⟨by omega, by omega⟩]; omega
    have r4 : IntKind.i64.wrap (-n1) = (k : Int) := by rw [IntKind.wrap_i64]; omega
    have HF : Hid (fewN n m = k % m1) := by
      show _ = _
      unfold fewN
      rw [if_pos h, ← ek, Int.toNat_natCast, ← em]
    clear h1 h2 hm em h ek e1
    go_enter Tryz.func20, Tryz.ntmps20
    go_wp2_with fail
    go_ret
    exact ⟨ret_int (by rw [HF.out]; rfl), rfl⟩
  · obtain ⟨k, rfl⟩ : ∃ k : Nat, n = (k : Int) := ⟨n.toNat, by omega⟩
    have d1 : decide ((k : Int) < 0) = false := decide_eq_false h
    have HF : Hid (fewN (k : Int) m = k % m1) := by
      show _ = _
      unfold fewN
      rw [if_neg h, Int.toNat_natCast, ← em]
    clear h1 hm em h
    go_enter Tryz.func20, Tryz.ntmps20
    go_wp2_with fail
    go_ret
    exact ⟨ret_int (by rw [HF.out]; rfl), rfl⟩
/-- The bits of a half. -/
def uHalf : Nat := 4602678819172646912
theorem half_ok (per : Int) (h1 : 1 ≤ per) (h2 : per ≤ 1073741824) : rateOk uHalf per := ⟨by decide +kernel, h1, h2, .inr (by decide)⟩
theorem half_one : rP uHalf 1 = 1 ∧ rQ uHalf 1 = 2 := by decide +kernel
theorem told_100 (b : Nat) (w : World) (h : Bu w b 100 0 1 2 10) (hT : Tab w) : Calls Tryz.prog 13 #[.pointer (some ⟨b, 0, none⟩), .int .i64 100] w fun e w' => ∃ v, e = .returned v ∧ Rt w' v 0 1 ∧ Bu w' b 100 0 1 2 10 ∧ Fb (fun x => x = b) w w' := by
  refine (bat_any b 100 0 1 2 10 100 w h hT).mono ?_
  rintro e w' ⟨v, p, q, rfl, hv, f, hB, hF⟩
  have e1 : atN 100 0 1 2 10 100 = 0 := by decide
  have e2 : atT 100 100 = 100 := by decide
  rw [e1] at f hB
  rw [e2] at hB
  obtain ⟨rfl, rfl⟩ := f.one (p' := 0) (q' := 1) (m := 20) ⟨by decide, by omega, by omega, by omega, P_pos _, P_lt (by omega : 0 < 20)⟩
  exact ⟨v, rfl, hv, hB, hF⟩
theorem told_103 (b : Nat) (w : World) (h : Bu w b 100 0 1 2 10) (hT : Tab w) : Calls Tryz.prog 13 #[.pointer (some ⟨b, 0, none⟩), .int .i64 103] w fun e w' => ∃ v, e = .returned v ∧ Rt w' v 3 2 ∧ Bu w' b 103 3 1 2 10 ∧ Fb (fun x => x = b) w w' := by
  refine (bat_any b 100 0 1 2 10 103 w h hT).mono ?_
  rintro e w' ⟨v, p, q, rfl, hv, f, hB, hF⟩
  have e1 : atN 100 0 1 2 10 103 = 3 := by decide
  have e2 : atT 100 103 = 103 := by decide
  rw [e1] at f hB
  rw [e2] at hB
  obtain ⟨rfl, rfl⟩ := f.one (p' := 3) (q' := 2) (m := 20) ⟨by decide, by omega, by omega, by omega, P_up (n := 1) (by rw [P_one]; omega) (by omega), P_up (n := 1) (by rw [P_one]; omega) (by omega)⟩
  exact ⟨v, rfl, hv, hB, hF⟩
theorem told_3 (b : Nat) (w : World) (h : Bu w b 103 3 1 2 10) (hT : Tab w) : Calls Tryz.prog 16 #[.pointer (some ⟨b, 0, none⟩), .int .i64 104, .int .i64 3] w fun e w' => e = .returned (.int .i64 80) ∧ Bu w' b 104 4 1 2 10 ∧ Fb (fun x => x = b) w w' := by
  refine (btake_any b 103 3 1 2 10 104 3 w h hT (by omega)).mono ?_
  rintro e w' ⟨rfl, hB, hF⟩
  have e1 : takeE (atN 103 3 1 2 10 104) 2 3 = 80 := by decide
  have e2 : takeN (atN 103 3 1 2 10 104) 2 3 = 4 := by decide
  have e3 : atT 103 104 = 104 := by decide
  rw [e2, e3] at hB
  exact ⟨by rw [e1], hB, hF⟩
theorem told_2 (b : Nat) (w : World) (h : Bu w b 104 4 1 2 10) (hT : Tab w) : Calls Tryz.prog 16 #[.pointer (some ⟨b, 0, none⟩), .int .i64 104, .int .i64 2] w fun e w' => e = .returned (.int .i64 0) ∧ Fb (fun x => x = b) w w' := by
  refine (btake_any b 104 4 1 2 10 104 2 w h hT (by omega)).mono ?_
  rintro e w' ⟨rfl, hB, hF⟩
  have e1 : takeE (atN 104 4 1 2 10 104) 2 2 = 0 := by decide
  exact ⟨by rw [e1], hF⟩
set_option maxHeartbeats 4000000 in
theorem btold_true (w : World) (hT : Tab w) : Calls Tryz.prog 8 #[] w fun e w' => e = .returned (.bool true) ∧ Below w.heap.size w w' := by
  have NW : Hid (∀ w, Tab w → Calls Tryz.prog 9 #[.int .i64 10, .float .f64 4602678819172646912, .int .i64 1, .int .i64 100] w (NewYes w 100 1 2 10)) := fun w hT => by
    have := bnew_yes 10 uHalf 1 100 w (by omega) (by omega) (half_ok _ (by omega) (by omega)) (by omega) hT
    rw [half_one.1, half_one.2] at this
    exact this
  have HT : Hid (Tab w) := hT
  clear hT
  go_enter Tryz.func8, Tryz.ntmps8
  go_wp2_with fail
  refine (NW.out _ HT.out).mono ?_
  rintro e w1 ⟨b, rfl, hb, hB, hb1⟩
  have Z0 : Hid (Bu w1 b 100 0 1 2 10 ∧ Tab w1 ∧ Below w.heap.size w w1 ∧ w.heap.size ≤ b) := ⟨hB, HT.out.go hb1, hb1, hb⟩
  clear hb hB hb1
  go_wp2_with fail
  refine (told_x _).mono ?_
  rintro e w2 ⟨v2, rfl, hv, hb2⟩
  have hv' := hv
  obtain ⟨a7, n7, c7, a8, n8, c8, ev, _, _⟩ := hv'
  subst ev
  have ba := bel_go hb2 (bel_al (o := .cells #[.slice a7 n7 c7, .slice a8 n8 c8] 35) (bel_refl _))
  have Z1 : Hid (Bu (w2.alloc (.cells #[.slice a7 n7 c7, .slice a8 n8 c8] 35)) b 100 0 1 2 10 ∧ Tab (w2.alloc (.cells #[.slice a7 n7 c7, .slice a8 n8 c8] 35)) ∧ Below w.heap.size w (w2.alloc (.cells #[.slice a7 n7 c7, .slice a8 n8 c8] 35)) ∧ w.heap.size ≤ b ∧ RRt (w2.alloc (.cells #[.slice a7 n7 c7, .slice a8 n8 c8] 35)) (.agg #[.slice a7 n7 c7, .slice a8 n8 c8]) 3 2 ∧ w2.heap.size ≠ b) := ⟨Z0.out.1.go ba, Z0.out.2.1.go ba, bel_go Z0.out.2.2.1 ba, Z0.out.2.2.2, hv.mono (bel_al (bel_refl _)), by have := (Z0.out.1.go hb2).lt; omega⟩
  clear hv hb2 ba Z0
  go_wp2_with fail
  obtain ⟨W, hW⟩ : ∃ W, W = w2.alloc (.cells #[.slice a7 n7 c7, .slice a8 n8 c8] 35) := ⟨_, rfl⟩
  have z0 : W.cell? ⟨w2.heap.size, 0, none⟩ = some (.slice a7 n7 c7) := by rw [hW]; simp [go_sem]
  have z1 : W.cell? ⟨w2.heap.size, 1, none⟩ = some (.slice a8 n8 c8) := by rw [hW]; simp [go_sem]
  obtain ⟨g, hg⟩ : ∃ g, g = w2.heap.size := ⟨_, rfl⟩
  rw [← hW] at Z1
  rw [← hg] at z0 z1 Z1
  rw [← hW, ← hg]
  clear hW hg
  have ne : Hid (g ≠ b) := Z1.out.2.2.2.2.2
  have rs : Hid (RS 0 ∧ RS 1 ∧ RS 2 ∧ RS 3) := ⟨rs_few (by omega), rs_few (by omega), rs_few (by omega), rs_few (by omega)⟩
  refine wp_region_held_drew (S := fun w9 => w9.cell? ⟨g, 0, none⟩ = some (.slice a7 n7 c7) ∧ w9.cell? ⟨g, 1, none⟩ = some (.slice a8 n8 c8)) (by kernel_rfl) ⟨z0, z1⟩ (fun hHeld => ?_)
  refine wpAnyH_take (i := 0) (v := .pointer (some ⟨b, 0, none⟩)) rfl (by kernel_rfl) (by kernel_rfl) (by kernel_rfl) (fun _ _ _ h => h) (Or.inl ⟨by rfl, ?_⟩) (by assumption) ?_
  · intro w hSw
    obtain ⟨g1, g2⟩ := hSw
    go_simp
  refine wpAnyH_ready (rs := [1]) (by kernel_rfl) (by simp) ?_
  refine AllReadyH.cons rfl (fun K9 hK9 => ?_) AllReadyH.nil
  go_simp
  refine Calls.mono (told_100 b _ (Z1.out.1.go (bel_dr (bel_refl _))) (Z1.out.2.1.go (bel_dr (bel_refl _)))) ?_
  rintro e w3 ⟨v3, rfl, hv3, hB3, hF3⟩
  replace hF3 := (Fb.of (S := fun x => x = b) (bel_dr (bel_refl W))).trans hF3
  have y0 := hF3.cell z0 ne.out
  have y1 := hF3.cell z1 ne.out
  have Z2 : Hid (Rt w3 v3 0 1 ∧ Bu w3 b 100 0 1 2 10 ∧ Tab w3 ∧ Fb (fun x => x = b) w w3 ∧ RRt w3 (.agg #[.slice a7 n7 c7, .slice a8 n8 c8]) 3 2) := ⟨hv3, hB3, Z1.out.2.1.fb hF3 (fun k e => e ▸ Z1.out.1.odd), (Fb.of Z1.out.2.2.1).trans hF3, Z1.out.2.2.2.2.1.fb hF3 (fun k e => e ▸ Z1.out.1.odd)⟩
  have Z9 : Hid (w.heap.size ≤ b) := Z1.out.2.2.2.1
  clear hv3 hB3 hF3 Z1 hHeld
  refine hK9.out _ _ ⟨y0, y1⟩ (fun hHeld => ?_)
  clear hK9 K9
  refine wpAnyH_ready (rs := [2]) (by kernel_rfl) (by simp) ?_
  refine AllReadyH.cons rfl (fun K9 hK9 => ?_) AllReadyH.nil
  go_simp
  refine Calls.mono (rzero2_any _) ?_
  rintro e w4 ⟨v4, rfl, hv4, hb4⟩
  have x0 := cell_later hb4 y0
  have x1 := cell_later hb4 y1
  have Z3 : Hid (Rt w4 v3 0 1 ∧ RRt w4 v4 0 1 ∧ Bu w4 b 100 0 1 2 10 ∧ Tab w4 ∧ Fb (fun x => x = b) w w4 ∧ RRt w4 (.agg #[.slice a7 n7 c7, .slice a8 n8 c8]) 3 2) := ⟨Z2.out.1.mono hb4, hv4, Z2.out.2.1.go hb4, Z2.out.2.2.1.go hb4, Z2.out.2.2.2.1.go hb4, Z2.out.2.2.2.2.mono hb4⟩
  clear hv4 hb4 Z2 hHeld y0 y1
  refine hK9.out _ _ ⟨x0, x1⟩ (fun hHeld => ?_)
  clear hK9 K9
  refine wpAnyH_ready (rs := [3]) (by kernel_rfl) (by simp) ?_
  refine AllReadyH.cons rfl (fun K9 hK9 => ?_) AllReadyH.nil
  go_simp
  refine Calls.mono (rsame_true v3 v4 0 1 _ Z3.out.1 Z3.out.2.1 rs.out.1 rs.out.2.1) ?_
  rintro e w5 ⟨rfl, hb5⟩
  have u0 := cell_later hb5 x0
  have u1 := cell_later hb5 x1
  have Z4 : Hid (Bu w5 b 100 0 1 2 10 ∧ Tab w5 ∧ Fb (fun x => x = b) w w5 ∧ RRt w5 (.agg #[.slice a7 n7 c7, .slice a8 n8 c8]) 3 2) := ⟨Z3.out.2.2.1.go hb5, Z3.out.2.2.2.1.go hb5, Z3.out.2.2.2.2.1.go hb5, Z3.out.2.2.2.2.2.mono hb5⟩
  clear hb5 Z3 hHeld x0 x1
  refine hK9.out _ _ ⟨u0, u1⟩ (fun hHeld => ?_)
  clear hK9 K9
  refine wpAnyH_take (i := 4) (v := .bool true) rfl (by kernel_rfl) (by kernel_rfl) (by kernel_rfl) (fun _ _ _ h => h) (Or.inl ⟨by rfl, ?_⟩) (by assumption) ?_
  · intro w hSw
    obtain ⟨g1, g2⟩ := hSw
    go_simp
  refine wpAnyH_take (i := 5) (v := .pointer (some ⟨b, 0, none⟩)) rfl (by kernel_rfl) (by kernel_rfl) (by kernel_rfl) (fun _ _ _ h => h) (Or.inl ⟨by rfl, ?_⟩) (by assumption) ?_
  · intro w hSw
    obtain ⟨g1, g2⟩ := hSw
    go_simp
  refine wpAnyH_take (i := 7) (v := (.agg #[.slice a7 n7 c7, .slice a8 n8 c8])) rfl (by kernel_rfl) (by kernel_rfl) (by kernel_rfl) (fun _ _ _ h => h) (Or.inl ⟨by rfl, ?_⟩) (by assumption) ?_
  · intro w hSw
    obtain ⟨g1, g2⟩ := hSw
    go_simp
  refine wpAnyH_ready (rs := [6]) (by kernel_rfl) (by simp) ?_
  refine AllReadyH.cons rfl (fun K9 hK9 => ?_) AllReadyH.nil
  go_simp
  refine Calls.mono (told_103 b _ Z4.out.1 Z4.out.2.1) ?_
  rintro e w6 ⟨v6, rfl, hv6, hB6, hF6⟩
  have t0 := hF6.cell u0 ne.out
  have t1 := hF6.cell u1 ne.out
  have Z5 : Hid (Rt w6 v6 3 2 ∧ Bu w6 b 103 3 1 2 10 ∧ Tab w6 ∧ Fb (fun x => x = b) w w6 ∧ RRt w6 (.agg #[.slice a7 n7 c7, .slice a8 n8 c8]) 3 2) := ⟨hv6, hB6, Z4.out.2.1.fb hF6 (fun k e => e ▸ Z4.out.1.odd), Z4.out.2.2.1.trans hF6, Z4.out.2.2.2.fb hF6 (fun k e => e ▸ Z4.out.1.odd)⟩
  clear hv6 hB6 hF6 Z4 hHeld u0 u1
  refine hK9.out _ _ ⟨t0, t1⟩ (fun hHeld => ?_)
  clear hK9 K9
  refine wpAnyH_ready (rs := [8]) (by kernel_rfl) (by simp) ?_
  refine AllReadyH.cons rfl (fun K9 hK9 => ?_) AllReadyH.nil
  go_simp
  refine Calls.mono (rsame_true v6 (.agg #[.slice a7 n7 c7, .slice a8 n8 c8]) 3 2 _ Z5.out.1 Z5.out.2.2.2.2 rs.out.2.2.2 rs.out.2.2.1) ?_
  rintro e w7 ⟨rfl, hb7⟩
  have s0 := cell_later hb7 t0
  have s1 := cell_later hb7 t1
  have Z6 : Hid (Bu w7 b 103 3 1 2 10 ∧ Tab w7 ∧ Fb (fun x => x = b) w w7) := ⟨Z5.out.2.1.go hb7, Z5.out.2.2.1.go hb7, Z5.out.2.2.2.1.go hb7⟩
  clear hb7 Z5 hHeld t0 t1
  refine hK9.out _ _ ⟨s0, s1⟩ (fun hHeld => ?_)
  clear hK9 K9
  refine wpAnyH_take (i := 9) (v := .bool true) rfl (by kernel_rfl) (by kernel_rfl) (by kernel_rfl) (fun _ _ _ h => h) (Or.inl ⟨by rfl, ?_⟩) (by assumption) ?_
  · intro w hSw
    obtain ⟨g1, g2⟩ := hSw
    go_simp
  refine wpAnyH_take (i := 10) (v := .bool true) rfl (by kernel_rfl) (by kernel_rfl) (by kernel_rfl) (fun _ _ _ h => h) (Or.inl ⟨by rfl, ?_⟩) (by assumption) ?_
  · intro w hSw
    obtain ⟨g1, g2⟩ := hSw
    go_simp
  refine wpAnyH_done (by kernel_rfl) ?_ _
  go_wp2_with fail
  refine (told_3 b _ Z6.out.1 Z6.out.2.1).mono ?_
  rintro e w8 ⟨rfl, hB8, hF8⟩
  have Z7 : Hid (Bu w8 b 104 4 1 2 10 ∧ Tab w8 ∧ Fb (fun x => x = b) w w8) := ⟨hB8, Z6.out.2.1.fb hF8 (fun k e => e ▸ Z6.out.1.odd), Z6.out.2.2.trans hF8⟩
  clear hB8 hF8 Z6
  go_wp2_with fail
  refine (told_2 b _ Z7.out.1 Z7.out.2.1).mono ?_
  rintro e w9 ⟨rfl, hF9⟩
  have Z8 : Hid (Below w.heap.size w w9) := (Z7.out.2.2.trans hF9).below (Nat.le_refl _) (fun k e => e ▸ Z9.out)
  clear hF9 Z7
  go_wp2_with fail
  go_ret
  exact ⟨rfl, Z8.out⟩
end Go.Proofs.YtdmkneojhnhomaaGreatDoor
namespace Go.Proofs.YtdmkneojhnhomaaGreatDoor
open Go.RowKit
set_option maxRecDepth 100000
set_option linter.unusedVariables false
theorem ceil_le {x R : Nat} (hR : 0 < R) : x ≤ R * ceilN x R := by
  have h := Nat.div_add_mod x R
  have h2 := Nat.mod_lt x hR
  unfold ceilN
  by_cases e : x % R = 0
  · rw [if_pos e]
    omega
  · rw [if_neg e, Nat.mul_add]
    omega
theorem ceil_gt {x R k : Nat} (hR : 0 < R) (hk : k < ceilN x R) : R * k < x := by
  have h := Nat.div_add_mod x R
  have h2 := Nat.mod_lt x hR
  unfold ceilN at hk
  by_cases e : x % R = 0
  · rw [if_pos e] at hk
    have : R * (k + 1) ≤ R * (x / R) := Nat.mul_le_mul_left _ hk
    rw [Nat.mul_add] at this
    omega
  · rw [if_neg e] at hk
    have : R * k ≤ R * (x / R) := Nat.mul_le_mul_left _ (by omega)
    omega
/-- What it means that Wait tells a tick, and that it tells none. -/
theorem wait_zero {T N R D B k : Nat} (h1 : 1 ≤ k) (h2 : k ≤ B) (hT : T ≤ 4611686018427387904) (h : waitE T N R D B (k : Int) = 0) :
    ∃ d, waitV T N R D B (k : Int) = T + d ∧ T + d ≤ 4611686018427387904 ∧ k * D ≤ N + R * d ∧ ∀ j, j < d → N + R * j < k * D := by
  obtain ⟨val, ok, ht⟩ := tick_ex N R D k
  by_cases hc : ok = true ∧ T + val ≤ 4611686018427387904
  · obtain ⟨rfl, hc⟩ := hc
    refine ⟨val, (wait_yes ht h1 h2 hc).2, hc, ?_, ?_⟩
    · rcases ht with h | h | h | h
      · omega
      · cases h.2.2.2
      · have := ceil_le (x := k * D - N) h.2.1
        rw [← h.2.2.2.1] at this
        omega
      · cases h.2.2.2.2
    · intro j hj
      rcases ht with h | h | h | h
      · omega
      · cases h.2.2.2
      · rw [h.2.2.2.1] at hj
        have := ceil_gt h.2.1 hj
        omega
      · cases h.2.2.2.2
  · have := (wait_no (B := B) ht h1 h2 hT fun e hh => hc ⟨e, hh⟩).1
    rw [this] at h
    cases h
theorem wait_none {T N R D B k : Nat} (h1 : 1 ≤ k) (h2 : k ≤ B) (hT : T ≤ 4611686018427387904) (h : ¬ waitE T N R D B (k : Int) = 0) :
    waitE T N R D B (k : Int) = 80 ∧ waitV T N R D B (k : Int) = 0 ∧ ∀ j, T + j ≤ 4611686018427387904 → N + R * j < k * D := by
  obtain ⟨val, ok, ht⟩ := tick_ex N R D k
  by_cases hc : ok = true ∧ T + val ≤ 4611686018427387904
  · obtain ⟨rfl, hc⟩ := hc
    exact absurd (wait_yes ht h1 h2 hc).1 h
  · have hw := wait_no (B := B) ht h1 h2 hT fun e hh => hc ⟨e, hh⟩
    refine ⟨hw.1, hw.2, fun j hj => ?_⟩
    rcases ht with h | h | h | h
    · exact absurd ⟨h.2.2, by omega⟩ hc
    · rw [h.2.1, Nat.zero_mul]
      omega
    · have hn : ¬ T + val ≤ 4611686018427387904 := fun e => hc ⟨h.2.2.2.2, e⟩
      have := ceil_gt (x := k * D - N) (k := j) h.2.1 (by rw [← h.2.2.2.1]; omega)
      omega
    · have := ceil_gt (x := k * D - N) (k := j) h.2.1 (by have := h.2.2.1; omega)
      omega
theorem take_80 {N D k : Nat} (h1 : 1 ≤ k) (h : N < k * D) : takeE N D (k : Int) = 80 := by
  unfold takeE
  rw [Int.toNat_natCast, if_neg (by omega), if_pos h]
theorem take_0 {N D k : Nat} (h1 : 1 ≤ k) (h : k * D ≤ N) : takeE N D (k : Int) = 0 := by
  unfold takeE
  rw [Int.toNat_natCast, if_neg (by omega), if_neg (by omega)]
theorem atT_of {T x : Nat} (h : T ≤ x) (h2 : x ≤ 4611686018427387904) : atT T (x : Int) = x := by unfold atT; omega
theorem atN_of {T N R D B x : Nat} (h : T ≤ x) (h2 : x ≤ 4611686018427387904) : atN T N R D B (x : Int) = fillN N R D B (x - T) := by unfold atN; rw [atT_of h h2]
theorem wf_i64 {n : Int} (h : (Lit.int .i64 n).wf = true) : -9223372036854775808 ≤ n ∧ n ≤ 9223372036854775807 := by
  have hmin : IntKind.i64.min = -9223372036854775808 := rfl
  have hmax : IntKind.i64.max = 9223372036854775807 := rfl
  have h2 : IntKind.i64.min ≤ n ∧ n ≤ IntKind.i64.max := by simpa [Lit.wf] using h
  rw [hmin, hmax] at h2
  exact h2
theorem wf_u64 {n : Int} (h : (Lit.int .u64 n).wf = true) : ∃ u : Nat, n = (u : Int) ∧ u < 18446744073709551616 := by
  have hmin : IntKind.u64.min = 0 := rfl
  have hmax : IntKind.u64.max = 18446744073709551615 := rfl
  have h2 : IntKind.u64.min ≤ n ∧ n ≤ IntKind.u64.max := by simpa [Lit.wf] using h
  rw [hmin, hmax] at h2
  exact ⟨n.toNat, by omega, by omega⟩
theorem ownD : ownKnob Tryz.prog.godebug = none := by kernel_rfl
theorem laidOutD : laidOutB Tryz.prog = true := by kernel_rfl
end Go.Proofs.YtdmkneojhnhomaaGreatDoor
namespace Go.Proofs.YtdmkneojhnhomaaGreatDoor
open Go.RowKit Go.ChangeShapes Go.WideShapes Go.ChangeAt
set_option linter.unusedVariables false
/-- A slice of numbers that came in. -/
structure ISl (w : World) (a : Option Addr) (n cap : Nat) (xs : Nat → Int) : Prop where
  le : n ≤ cap
  lim : cap ≤ 9223372036854775807
  wf : ∀ i, i < n → -9223372036854775808 ≤ xs i ∧ xs i ≤ 9223372036854775807
  at' : n = 0 ∨ ∃ b o, a = some ⟨b, o, none⟩ ∧ ∀ i, i < n → w.cell? ⟨b, o + i, none⟩ = some (.int .i64 (xs i))
theorem ISl.at {w W : World} {a : Option Addr} {n cap : Nat} {xs : Nat → Int} (h : ISl w a n cap xs) (hB : Below w.heap.size w W) (hn : 0 < n) : ∃ b o, a = some ⟨b, o, none⟩ ∧ ∀ i, i < n → W.cell? ⟨b, o + i, none⟩ = some (.int .i64 (xs i)) := by
  rcases h.at' with e | ⟨b, o, e, hc⟩
  · omega
  · exact ⟨b, o, e, fun i hi => cell_later hB (hc i hi)⟩
theorem isl_none (w : World) : ISl w none 0 0 (fun _ => 0) := ⟨Nat.le_refl _, by omega, fun i hi => by omega, .inl rfl⟩
theorem addr_plus (b off i : Nat) : (⟨b, off, none⟩ : Addr).add i = ⟨b, off + i, none⟩ := by
  unfold Addr.add
  rcases Nat.eq_zero_or_pos i with e | e
  · subst e; simp
  · rw [if_neg (by omega)]
theorem isl_of {w : World} {a : Addr} {len cap : Nat} {zs : List Int} (hl : len ≤ cap) (hm : cap ≤ maxLen) (hz : zs.length = cap) (h : ∀ i, i < zs.length → w.cell? (a.add i) = some (.int .i64 (zs.getD i 0))) (hw : ∀ n ∈ zs, (Lit.int .i64 n).wf = true) : ISl w (some a) len cap (fun i => zs.getD i 0) := by
  refine ⟨hl, by simp only [maxLen] at hm; omega, fun i hi => ?_, ?_⟩
  · have : zs.getD i 0 ∈ zs := by
      rw [List.getD_eq_getElem?_getD, List.getElem?_eq_getElem (by omega)]
      exact List.getElem_mem _
    exact wf_i64 (hw _ this)
  · rcases Nat.eq_zero_or_pos len with e | e
    · exact .inl e
    · obtain ⟨b, off, spot⟩ := a
      have hc := h 0 (by omega)
      have hspot : spot = none := by simpa [Addr.add] using World.cell?_spot hc
      subst hspot
      refine .inr ⟨b, off, rfl, fun i hi => ?_⟩
      have h1 := h i (by omega)
      rw [addr_plus] at h1
      exact h1
theorem ints_of {H : Type} {enc : TypeId × Value → H} {w : World} {base : Nat} {held : Bool} {fuel : Nat} {a : Option Addr} {len cap : Nat} {x : DataW H × List MemPlace} (h : DataW.trod enc Tryz.prog w base (fun _ => true) held fuel 61 (Value.slice a len cap).cells.toList = some x) : ∃ F, ISl w a len cap F := by
  rcases open_ints Tryz.underlying61 Tryz.underlying3 (by kernel_rfl) h with ⟨hcs, _⟩ | ⟨y, l, c, zs, hcs, _, hl, hm, hz, hx, hcell, hwz⟩
  · simp [Value.cells] at hcs
    obtain ⟨rfl, rfl, rfl⟩ := hcs
    exact ⟨_, isl_none w⟩
  · simp [Value.cells] at hcs
    obtain ⟨rfl, rfl, rfl⟩ := hcs
    exact ⟨_, isl_of hl hm (by simpa using hz) hcell hwz⟩
/-- A slice of steps that came in. -/
structure SSl (w : World) (a : Option Addr) (n cap : Nat) (F : Nat → Nat → Int) : Prop where
  le : n ≤ cap
  lim : cap ≤ 9223372036854775807
  wf : ∀ i j, i < n → j < 3 → -9223372036854775808 ≤ F i j ∧ F i j ≤ 9223372036854775807
  at' : n = 0 ∨ ∃ b o, a = some ⟨b, o, none⟩ ∧ ∀ i j, i < n → j < 3 → w.cell? ⟨b, o + i * 3 + j, none⟩ = some (.int .i64 (F i j))
theorem SSl.at {w W : World} {a : Option Addr} {n cap : Nat} {F : Nat → Nat → Int} (h : SSl w a n cap F) (hB : Below w.heap.size w W) (hn : 0 < n) : ∃ b o, a = some ⟨b, o, none⟩ ∧ ∀ i j, i < n → j < 3 → W.cell? ⟨b, o + i * 3 + j, none⟩ = some (.int .i64 (F i j)) := by
  rcases h.at' with e | ⟨b, o, e, hc⟩
  · omega
  · exact ⟨b, o, e, fun i j hi hj => cell_later hB (hc i j hi hj)⟩
theorem plus_more (a : Addr) (m j : Nat) : (a.add m).add j = a.add (m + j) := by
  unfold Addr.add
  rcases Nat.eq_zero_or_pos m with e | e
  · subst e; simp
  · rcases Nat.eq_zero_or_pos j with e2 | e2
    · subst e2; simp
    · rw [if_neg (by omega), if_neg (by omega), if_neg (by omega)]
      simp [Nat.add_assoc]
theorem stepsK_of {K : Nat} {H : Type} {enc : TypeId × Value → H} {P : Program} {w : World} {base : Nat} {spare : Nat → Bool} {held : Bool} {t e : TypeId} {fuel : Nat} {cs : List Value} {x : DataW H × List MemPlace} {fs : Array Field}
    (ht : P.underlying t = some (.slice e)) (he : P.underlying e = some (.struct fs)) (ce : P.cellsOf e = K) (hsz : fs.size = K)
    (hf : ∀ j, j < K → ∃ f, fs[j]? = some f ∧ f.offset = j ∧ P.cellsOf f.type = 1 ∧ P.underlying f.type = some (.int .i64)) (h : DataW.trod enc P w base spare held fuel t cs = some x) :
    cs = [.slice none 0 0] ∨ ∃ (a : Addr) (len cap : Nat), cs = [.slice (some a) len cap] ∧ len ≤ cap ∧ cap ≤ maxLen ∧ ∀ i j, i < len → j < K → ∃ v, w.cell? (a.add (i * K + j)) = some (.int .i64 v) ∧ (Lit.int .i64 v).wf = true := by
  rcases Deep.open_slice ht h with ⟨h0, _⟩ | ⟨a, len, cap, m, n, D, Pl, rfl, hb, hl, hm, hmm, _, hx⟩
  · exact .inl h0
  · refine .inr ⟨a, len, cap, rfl, hl, hm, fun i j hi hj => ?_⟩
    have hlm : len ≤ m := by rw [hmm]; split <;> omega
    obtain ⟨cs', h1, h2⟩ := hx i (by omega)
    rw [ce] at h1
    obtain ⟨_, hlen, hcell⟩ := World.cells?_some h1
    obtain ⟨xs, k, _, _, _, hxl, hff⟩ := DataW.trod_struct he h2
    obtain ⟨f, f1, f2, f3, f4⟩ := hf j hj
    have g := hff j f f1
    rw [f2, f3] at g
    have hxj : ∃ y, xs[j]? = some y := ⟨_, List.getElem?_eq_getElem (by omega)⟩
    obtain ⟨y, hy⟩ := hxj
    rw [hy] at g
    obtain ⟨v, hv, _, hw⟩ := DataW.trod_int f4 g
    refine ⟨v, ?_, hw⟩
    have e1 := hcell j hj
    rw [plus_more] at e1
    rw [e1]
    have e2 := congrArg (fun l => l[0]?) hv
    simpa using e2
theorem ssl_of {w : World} {a : Addr} {len cap : Nat} (hl : len ≤ cap) (hm : cap ≤ maxLen) (h : ∀ i j, i < len → j < 3 → ∃ v, w.cell? (a.add (i * 3 + j)) = some (.int .i64 v) ∧ (Lit.int .i64 v).wf = true) :
    ∃ F, SSl w (some a) len cap F := by
  refine ⟨fun i j => intOf ((w.cell? (a.add (i * 3 + j))).getD undef), hl, by simp only [maxLen] at hm; omega, fun i j hi hj => ?_, ?_⟩
  · obtain ⟨v, hv, hw⟩ := h i j hi hj
    show -9223372036854775808 ≤ intOf ((w.cell? (a.add (i * 3 + j))).getD undef) ∧ _
    rw [hv]
    exact wf_i64 hw
  · rcases Nat.eq_zero_or_pos len with e | e
    · exact .inl e
    · obtain ⟨b, off, spot⟩ := a
      obtain ⟨v, hc, _⟩ := h 0 0 e (by omega)
      have hspot : spot = none := by simpa [Addr.add] using World.cell?_spot hc
      subst hspot
      refine .inr ⟨b, off, rfl, fun i j hi hj => ?_⟩
      obtain ⟨v, hv, _⟩ := h i j hi hj
      rw [addr_plus] at hv
      have e3 : off + i * 3 + j = off + (i * 3 + j) := by omega
      rw [e3, hv, addr_plus, hv]
      rfl
theorem steps_of {H : Type} {enc : TypeId × Value → H} {w : World} {base : Nat} {held : Bool} {fuel : Nat} {a : Option Addr} {len cap : Nat} {x : DataW H × List MemPlace} (h : DataW.trod enc Tryz.prog w base (fun _ => true) held fuel 23 (Value.slice a len cap).cells.toList = some x) : ∃ F, SSl w a len cap F := by
  rcases stepsK_of (K := 3) Tryz.underlying23 Tryz.underlying42 (by kernel_rfl) rfl (fun j hj => match j, hj with
    | 0, _ => ⟨_, rfl, rfl, by kernel_rfl, by kernel_rfl⟩
    | 1, _ => ⟨_, rfl, rfl, by kernel_rfl, by kernel_rfl⟩
    | 2, _ => ⟨_, rfl, rfl, by kernel_rfl, by kernel_rfl⟩) h with hcs | ⟨y, l, c, hcs, hl, hm, hcell⟩
  · simp [Value.cells] at hcs
    obtain ⟨rfl, rfl, rfl⟩ := hcs
    exact ⟨fun _ _ => 0, Nat.le_refl _, by omega, fun i j hi _ => by omega, .inl rfl⟩
  · simp [Value.cells] at hcs
    obtain ⟨rfl, rfl, rfl⟩ := hcs
    exact ssl_of hl hm hcell
end Go.Proofs.YtdmkneojhnhomaaGreatDoor
