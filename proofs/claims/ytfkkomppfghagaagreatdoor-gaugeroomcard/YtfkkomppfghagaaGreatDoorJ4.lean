/- Contracts of the program's functions, part 4: own work, joined in build order. -/
import Derived.Test.YtfkkomppfghagaaGreatDoorJ3
namespace Go.Proofs.YtfkkomppfghagaaGreatDoor
open Go.RowKit
set_option maxRecDepth 100000
set_option linter.unusedVariables false
set_option maxHeartbeats 1000000 in
theorem div64_small (lo y : Nat) (w : World) (hl : lo < 18446744073709551616) (hy : y < 18446744073709551616) (hy0 : 0 < y) :
    Calls Tryz.prog 137 #[.int .u64 0, .int .u64 (lo : Int), .int .u64 (y : Int)] w fun e w' => e = .returned (.tuple #[.int .u64 ((lo / y : Nat) : Int), .int .u64 ((lo % y : Nat) : Int)]) ∧ ∃ n, w' = w.drewN n := by
  have h0 : ((y : Int) == 0) = false := by simp <;> omega
  have h1 : decide ((y : Int) ≤ 0) = false := decide_eq_false (by omega)
  have h2 : ¬ (y : Int) = 0 := by omega
  go_enter Tryz.func137, Tryz.ntmps137
  go_wp2_with fail
  go_region
  go_wp2_with fail
  go_ret2
  have e1 : ((lo / y : Nat) : Int) = (lo : Int) / (y : Int) := by simp
  have e2 : IntKind.u64.wrap ((lo : Int) / (y : Int)) = ((lo / y : Nat) : Int) := by rw [← e1]; exact wrapU_nat _ (Nat.lt_of_le_of_lt (Nat.div_le_self _ _) hl)
  exact ⟨by simp [e2], 1, rfl⟩
theorem lz64_s (y s : Nat) (w : World) (hy : y < 18446744073709551616) (hs : s = 64 - bitLen y) : Calls Tryz.prog 126 #[.int .u64 (y : Int)] w fun e w' => e = .returned (.int .i64 (s : Int)) ∧ w' = w := by
  rw [hs]
  exact lz64_any y w hy
theorem wrap_quo (A y1 : Nat) (hA : A < 18446744073709551616) : IntKind.u64.wrap ((A : Int) / (y1 : Int)) = ((A / y1 : Nat) : Int) := by
  have e1 : ((A / y1 : Nat) : Int) = (A : Int) / (y1 : Int) := by simp
  rw [← e1]
  exact wrapU_nat _ (Nat.lt_of_le_of_lt (Nat.div_le_self _ _) hA)
theorem wrap_rem (A y1 : Nat) (hA : A < 18446744073709551616) : IntKind.u64.wrap ((A : Int) - IntKind.u64.wrap (((A / y1 : Nat) : Int) * (y1 : Int))) = ((A % y1 : Nat) : Int) := by
  have h1 := Nat.div_add_mod A y1
  rw [Nat.mul_comm] at h1
  have e : ((A / y1 : Nat) : Int) * (y1 : Int) = ((A / y1 * y1 : Nat) : Int) := (Int.natCast_mul ..).symm
  rw [e]
  simp only [IntKind.wrap_u64]
  omega
theorem wrap_mul (a b : Nat) (ha : a < 4294967296) (hb : b < 4294967296) : IntKind.u64.wrap ((a : Int) * (b : Int)) = (a : Int) * (b : Int) := by
  have e : (a : Int) * (b : Int) = ((a * b : Nat) : Int) := (Int.natCast_mul ..).symm
  have h : a * b ≤ 4294967295 * 4294967295 := Nat.mul_le_mul (by omega) (by omega)
  rw [e]
  exact wrapU_nat _ (by omega)
theorem lt_cast {t u g y : Nat} (h : t * 4294967296 + u < g * y) : (4294967296 : Int) * (t : Int) + (u : Int) < (g : Int) * (y : Int) := by
  have e : (g : Int) * (y : Int) = ((g * y : Nat) : Int) := (Int.natCast_mul ..).symm
  rw [e]
  omega
theorem not_lt_cast {t u g y : Nat} (h : ¬ t * 4294967296 + u < g * y) : ¬ (4294967296 : Int) * (t : Int) + (u : Int) < (g : Int) * (y : Int) := by
  have e : (g : Int) * (y : Int) = ((g * y : Nat) : Int) := (Int.natCast_mul ..).symm
  rw [e]
  omega
theorem div_fin {a b d R s x y : Nat} (ha : a = x) (hb : b = y) (hR : R = d) : Ending.returned (.tuple #[.int .u64 ((a : Int) * 4294967296 + (b : Int)), .int .u64 ((R : Int) / 2 ^ s)]) = .returned (.tuple #[.int .u64 ((x * 4294967296 + y : Nat) : Int), .int .u64 ((d / 2 ^ s : Nat) : Int)]) := by
  subst ha hb hR
  rw [div_int, show ((a * 4294967296 + b : Nat) : Int) = (a : Int) * 4294967296 + (b : Int) by omega]
set_option maxHeartbeats 4000000 in
theorem div64_core (hi lo y s Y y1 y0 A L u1 u0 q r A2 q2 r2 : Nat) (w : World) (hh0 : 0 < hi) (hhy : hi < y) (hl : lo < 18446744073709551616) (hy : y < 18446744073709551616) (hs : s = 64 - bitLen y) (hs' : s ≤ 63)
    (e1 : IntKind.u64.wrap ((y : Int) * 2 ^ s) = (Y : Int)) (e2 : (Y : Int) / 4294967296 = (y1 : Int)) (e3 : bits .and .u64 (Y : Int) 4294967295 = (y0 : Int))
    (e4 : bits .or .u64 (IntKind.u64.wrap ((hi : Int) * 2 ^ s)) ((lo : Int) / 2 ^ (64 - s)) = (A : Int)) (e5 : IntKind.u64.wrap ((lo : Int) * 2 ^ s) = (L : Int)) (e6 : (L : Int) / 4294967296 = (u1 : Int)) (e7 : bits .and .u64 (L : Int) 4294967295 = (u0 : Int))
    (e8 : IntKind.u64.wrap ((A : Int) / (y1 : Int)) = (q : Int)) (e9 : IntKind.u64.wrap ((A : Int) - IntKind.u64.wrap ((q : Int) * (y1 : Int))) = (r : Int))
    (hY : Hid (Y = y1 * 4294967296 + y0 ∧ A < Y ∧ Y < 18446744073709551616 ∧ A2 = (A * 4294967296 + u1) % Y ∧ Dig A u1 Y y1 q r ∧ Dig A2 u0 Y y1 q2 r2)) (hy0 : y0 < 4294967296) (hy1 : 0 < y1) (hy1' : y1 < 4294967296) (hu1 : u1 < 4294967296) (hu0 : u0 < 4294967296) (hr : r < 4294967296) (hr2 : r2 < 4294967296) (hqq : q < 18446744073709551616) (hqq2 : q2 < 18446744073709551616)
    (e10 : IntKind.u64.wrap ((A2 : Int) / (y1 : Int)) = (q2 : Int)) (e11 : IntKind.u64.wrap ((A2 : Int) - IntKind.u64.wrap ((q2 : Int) * (y1 : Int))) = (r2 : Int)) :
    Calls Tryz.prog 137 #[.int .u64 (hi : Int), .int .u64 (lo : Int), .int .u64 (y : Int)] w fun e w' => e = .returned (.tuple #[.int .u64 (((A * 4294967296 + u1) / Y * 4294967296 + (A2 * 4294967296 + u0) / Y : Nat) : Int), .int .u64 (((A2 * 4294967296 + u0) % Y / 2 ^ s : Nat) : Int)]) ∧ w' = w := by
  have h0 : ((y : Int) == 0) = false := by simp <;> omega
  have h1 : decide ((y : Int) ≤ (hi : Int)) = false := decide_eq_false (by omega)
  have h2 : ((hi : Int) == 0) = false := by simp <;> omega
  have hyn : ((y1 : Int) == 0) = false := by simp <;> omega
  have hyn' : ¬ (y1 : Int) = 0 := by omega
  have HS : Hid _ := hs
  clear hs
  go_enter Tryz.func137, Tryz.ntmps137
  go_wp2_with fail
  refine (lz64_s y s _ hy HS.out).mono ?_
  rintro e w1 ⟨rfl, rfl⟩
  go_wp2_with fail
  have HA2 : Hid (A2 < Y) := by show A2 < Y; rw [hY.out.2.2.2.1]; exact Nat.mod_lt _ (by have := hY.out.2.1; omega)
  go_loop [15, 16] (fun a c => ∃ (ga ta : Nat), a = .int .u64 ((ga : Nat) : Int) ∧ c = .int .u64 ((ta : Nat) : Int) ∧ ta < 4294967296 ∧ ga < 18446744073709551616 ∧ Hid (Dig A u1 Y y1 ga ta)) (fun a _ => (intOf a).toNat)
  case atStart => exact ⟨q, r, rfl, rfl, hr, hqq, hY.out.2.2.2.2.1⟩
  case round =>
    obtain ⟨ga, ta, rfl, rfl, hta, hga, HDa⟩ := hrel
    by_cases hba : 4294967296 ≤ ga
    · obtain ⟨hpa, HNa⟩ := HDa.out.step hY.out.1 hY.out.2.1 hu1 (.inl hba)
      have dba : decide ((4294967296 : Int) ≤ ((ga : Nat) : Int)) = true := decide_eq_true (by omega)
      obtain ⟨va, hva⟩ : ∃ v, v = ga - 1 := ⟨_, rfl⟩
      have eva : ((ga : Nat) : Int) - 1 = ((va : Nat) : Int) := by omega
      have vla : va < 18446744073709551616 := by omega
      have HMa : Hid (Dig A u1 Y y1 va (ta + y1) ∧ va < ga) := ⟨by rw [hva]; exact HNa, by omega⟩
      clear HNa hva hba
      by_cases hra : 4294967296 ≤ ta + y1
      · have dra : decide ((4294967296 : Int) ≤ ((ta : Nat) : Int) + (y1 : Int)) = true := decide_eq_true (by omega)
        have HQa : Hid (va = (A * 4294967296 + u1) / Y) := HMa.out.1.broke hY.out.1 hY.out.2.1 hy0 hra
        have hqa : (va : Int) < 4294967296 := by have := dig_lt hY.out.2.1 hu1; rw [← HQa.out] at this; omega
        clear hra
        have e12 : IntKind.u64.wrap (IntKind.u64.wrap (IntKind.u64.wrap ((A : Int) * 4294967296) + (u1 : Int)) - IntKind.u64.wrap (((va : Nat) : Int) * (Y : Int))) = (A2 : Int) := by rw [rest_wrap HQa.out hY.out.2.2.1 hY.out.2.1, ← hY.out.2.2.2.1]
        go_wp2_with fail
        go_loop [18, 16] (fun a c => ∃ (gb tb : Nat), a = .int .u64 ((gb : Nat) : Int) ∧ c = .int .u64 ((tb : Nat) : Int) ∧ tb < 4294967296 ∧ gb < 18446744073709551616 ∧ Hid (Dig A2 u0 Y y1 gb tb)) (fun a _ => (intOf a).toNat)
        case atStart => exact ⟨q2, r2, rfl, rfl, hr2, hqq2, hY.out.2.2.2.2.2⟩
        case round =>
          obtain ⟨gb, tb, rfl, rfl, htb, hgb, HDb⟩ := hrel
          by_cases hbb : 4294967296 ≤ gb
          · obtain ⟨hpb, HNb⟩ := HDb.out.step hY.out.1 HA2.out hu0 (.inl hbb)
            have dbb : decide ((4294967296 : Int) ≤ ((gb : Nat) : Int)) = true := decide_eq_true (by omega)
            obtain ⟨vb, hvb⟩ : ∃ v, v = gb - 1 := ⟨_, rfl⟩
            have evb : ((gb : Nat) : Int) - 1 = ((vb : Nat) : Int) := by omega
            have vlb : vb < 18446744073709551616 := by omega
            have HMb : Hid (Dig A2 u0 Y y1 vb (tb + y1) ∧ vb < gb) := ⟨by rw [hvb]; exact HNb, by omega⟩
            clear HNb hvb hbb
            by_cases hrb : 4294967296 ≤ tb + y1
            · have drb : decide ((4294967296 : Int) ≤ ((tb : Nat) : Int) + (y1 : Int)) = true := decide_eq_true (by omega)
              have HQb : Hid (vb = (A2 * 4294967296 + u0) / Y) := HMb.out.1.broke hY.out.1 HA2.out hy0 hrb
              have hqb : (vb : Int) < 4294967296 := by have := dig_lt HA2.out hu0; rw [← HQb.out] at this; omega
              clear hrb
              have e13 : IntKind.u64.wrap (IntKind.u64.wrap (IntKind.u64.wrap ((A2 : Int) * 4294967296) + (u0 : Int)) - IntKind.u64.wrap (((vb : Nat) : Int) * (Y : Int))) = (((A2 * 4294967296 + u0) % Y : Nat) : Int) := rest_wrap HQb.out hY.out.2.2.1 HA2.out
              obtain ⟨R, hR⟩ : ∃ R, R = (A2 * 4294967296 + u0) % Y := ⟨_, rfl⟩
              rw [← hR] at e13
              have HR : Hid _ := hR
              clear hR
              go_wp2_with fail
              go_ret2
              exact ⟨div_fin HQa.out HQb.out HR.out, rfl⟩
            have drb : decide ((4294967296 : Int) ≤ ((tb : Nat) : Int) + (y1 : Int)) = false := decide_eq_false (by omega)
            have hr'b : tb + y1 < 4294967296 := by omega
            clear hrb
            go_wp2_with fail
            go_round
            case rel => exact ⟨vb, tb + y1, rfl, by go_num, hr'b, by omega, HMb.out.1⟩
            case measure => simp [intOf]; have := HMb.out.2; omega
          by_cases hcb : tb * 4294967296 + u0 < gb * y0
          · obtain ⟨hpb, HNb⟩ := HDb.out.step hY.out.1 HA2.out hu0 (.inr hcb)
            have dbb : decide ((4294967296 : Int) ≤ ((gb : Nat) : Int)) = false := decide_eq_false (by omega)
            have mmb : IntKind.u64.wrap (((gb : Nat) : Int) * (y0 : Int)) = ((gb : Nat) : Int) * (y0 : Int) := wrap_mul _ _ (by omega) (by omega)
            have dcb : decide ((4294967296 : Int) * ((tb : Nat) : Int) + (u0 : Int) < ((gb : Nat) : Int) * (y0 : Int)) = true := decide_eq_true (lt_cast hcb)
            obtain ⟨vb, hvb⟩ : ∃ v, v = gb - 1 := ⟨_, rfl⟩
            have evb : ((gb : Nat) : Int) - 1 = ((vb : Nat) : Int) := by omega
            have vlb : vb < 18446744073709551616 := by omega
            have HMb : Hid (Dig A2 u0 Y y1 vb (tb + y1) ∧ vb < gb) := ⟨by rw [hvb]; exact HNb, by omega⟩
            clear HNb hvb hbb hcb
            by_cases hrb : 4294967296 ≤ tb + y1
            · have drb : decide ((4294967296 : Int) ≤ ((tb : Nat) : Int) + (y1 : Int)) = true := decide_eq_true (by omega)
              have HQb : Hid (vb = (A2 * 4294967296 + u0) / Y) := HMb.out.1.broke hY.out.1 HA2.out hy0 hrb
              have hqb : (vb : Int) < 4294967296 := by have := dig_lt HA2.out hu0; rw [← HQb.out] at this; omega
              clear hrb
              have e13 : IntKind.u64.wrap (IntKind.u64.wrap (IntKind.u64.wrap ((A2 : Int) * 4294967296) + (u0 : Int)) - IntKind.u64.wrap (((vb : Nat) : Int) * (Y : Int))) = (((A2 * 4294967296 + u0) % Y : Nat) : Int) := rest_wrap HQb.out hY.out.2.2.1 HA2.out
              obtain ⟨R, hR⟩ : ∃ R, R = (A2 * 4294967296 + u0) % Y := ⟨_, rfl⟩
              rw [← hR] at e13
              have HR : Hid _ := hR
              clear hR
              go_wp2_with fail
              go_ret2
              exact ⟨div_fin HQa.out HQb.out HR.out, rfl⟩
            have drb : decide ((4294967296 : Int) ≤ ((tb : Nat) : Int) + (y1 : Int)) = false := decide_eq_false (by omega)
            have hr'b : tb + y1 < 4294967296 := by omega
            clear hrb
            go_wp2_with fail
            go_round
            case rel => exact ⟨vb, tb + y1, rfl, by go_num, hr'b, by omega, HMb.out.1⟩
            case measure => simp [intOf]; have := HMb.out.2; omega
          have dbb : decide ((4294967296 : Int) ≤ ((gb : Nat) : Int)) = false := decide_eq_false (by omega)
          have mmb : IntKind.u64.wrap (((gb : Nat) : Int) * (y0 : Int)) = ((gb : Nat) : Int) * (y0 : Int) := wrap_mul _ _ (by omega) (by omega)
          have dcb : decide ((4294967296 : Int) * ((tb : Nat) : Int) + (u0 : Int) < ((gb : Nat) : Int) * (y0 : Int)) = false := decide_eq_false (not_lt_cast hcb)
          have HQb : Hid (gb = (A2 * 4294967296 + u0) / Y) := HDb.out.done hY.out.1 HA2.out (by omega)
          have hqb : (gb : Int) < 4294967296 := by omega
          clear hcb hbb
          have e13 : IntKind.u64.wrap (IntKind.u64.wrap (IntKind.u64.wrap ((A2 : Int) * 4294967296) + (u0 : Int)) - IntKind.u64.wrap (((gb : Nat) : Int) * (Y : Int))) = (((A2 * 4294967296 + u0) % Y : Nat) : Int) := rest_wrap HQb.out hY.out.2.2.1 HA2.out
          obtain ⟨R, hR⟩ : ∃ R, R = (A2 * 4294967296 + u0) % Y := ⟨_, rfl⟩
          rw [← hR] at e13
          have HR : Hid _ := hR
          clear hR
          go_wp2_with fail
          go_ret2
          exact ⟨div_fin HQa.out HQb.out HR.out, rfl⟩
      have dra : decide ((4294967296 : Int) ≤ ((ta : Nat) : Int) + (y1 : Int)) = false := decide_eq_false (by omega)
      have hr'a : ta + y1 < 4294967296 := by omega
      clear hra
      go_wp2_with fail
      go_round
      case rel => exact ⟨va, ta + y1, rfl, by go_num, hr'a, by omega, HMa.out.1⟩
      case measure => simp [intOf]; have := HMa.out.2; omega
    by_cases hca : ta * 4294967296 + u1 < ga * y0
    · obtain ⟨hpa, HNa⟩ := HDa.out.step hY.out.1 hY.out.2.1 hu1 (.inr hca)
      have dba : decide ((4294967296 : Int) ≤ ((ga : Nat) : Int)) = false := decide_eq_false (by omega)
      have mma : IntKind.u64.wrap (((ga : Nat) : Int) * (y0 : Int)) = ((ga : Nat) : Int) * (y0 : Int) := wrap_mul _ _ (by omega) (by omega)
      have dca : decide ((4294967296 : Int) * ((ta : Nat) : Int) + (u1 : Int) < ((ga : Nat) : Int) * (y0 : Int)) = true := decide_eq_true (lt_cast hca)
      obtain ⟨va, hva⟩ : ∃ v, v = ga - 1 := ⟨_, rfl⟩
      have eva : ((ga : Nat) : Int) - 1 = ((va : Nat) : Int) := by omega
      have vla : va < 18446744073709551616 := by omega
      have HMa : Hid (Dig A u1 Y y1 va (ta + y1) ∧ va < ga) := ⟨by rw [hva]; exact HNa, by omega⟩
      clear HNa hva hba hca
      by_cases hra : 4294967296 ≤ ta + y1
      · have dra : decide ((4294967296 : Int) ≤ ((ta : Nat) : Int) + (y1 : Int)) = true := decide_eq_true (by omega)
        have HQa : Hid (va = (A * 4294967296 + u1) / Y) := HMa.out.1.broke hY.out.1 hY.out.2.1 hy0 hra
        have hqa : (va : Int) < 4294967296 := by have := dig_lt hY.out.2.1 hu1; rw [← HQa.out] at this; omega
        clear hra
        have e12 : IntKind.u64.wrap (IntKind.u64.wrap (IntKind.u64.wrap ((A : Int) * 4294967296) + (u1 : Int)) - IntKind.u64.wrap (((va : Nat) : Int) * (Y : Int))) = (A2 : Int) := by rw [rest_wrap HQa.out hY.out.2.2.1 hY.out.2.1, ← hY.out.2.2.2.1]
        go_wp2_with fail
        go_loop [18, 16] (fun a c => ∃ (gb tb : Nat), a = .int .u64 ((gb : Nat) : Int) ∧ c = .int .u64 ((tb : Nat) : Int) ∧ tb < 4294967296 ∧ gb < 18446744073709551616 ∧ Hid (Dig A2 u0 Y y1 gb tb)) (fun a _ => (intOf a).toNat)
        case atStart => exact ⟨q2, r2, rfl, rfl, hr2, hqq2, hY.out.2.2.2.2.2⟩
        case round =>
          obtain ⟨gb, tb, rfl, rfl, htb, hgb, HDb⟩ := hrel
          by_cases hbb : 4294967296 ≤ gb
          · obtain ⟨hpb, HNb⟩ := HDb.out.step hY.out.1 HA2.out hu0 (.inl hbb)
            have dbb : decide ((4294967296 : Int) ≤ ((gb : Nat) : Int)) = true := decide_eq_true (by omega)
            obtain ⟨vb, hvb⟩ : ∃ v, v = gb - 1 := ⟨_, rfl⟩
            have evb : ((gb : Nat) : Int) - 1 = ((vb : Nat) : Int) := by omega
            have vlb : vb < 18446744073709551616 := by omega
            have HMb : Hid (Dig A2 u0 Y y1 vb (tb + y1) ∧ vb < gb) := ⟨by rw [hvb]; exact HNb, by omega⟩
            clear HNb hvb hbb
            by_cases hrb : 4294967296 ≤ tb + y1
            · have drb : decide ((4294967296 : Int) ≤ ((tb : Nat) : Int) + (y1 : Int)) = true := decide_eq_true (by omega)
              have HQb : Hid (vb = (A2 * 4294967296 + u0) / Y) := HMb.out.1.broke hY.out.1 HA2.out hy0 hrb
              have hqb : (vb : Int) < 4294967296 := by have := dig_lt HA2.out hu0; rw [← HQb.out] at this; omega
              clear hrb
              have e13 : IntKind.u64.wrap (IntKind.u64.wrap (IntKind.u64.wrap ((A2 : Int) * 4294967296) + (u0 : Int)) - IntKind.u64.wrap (((vb : Nat) : Int) * (Y : Int))) = (((A2 * 4294967296 + u0) % Y : Nat) : Int) := rest_wrap HQb.out hY.out.2.2.1 HA2.out
              obtain ⟨R, hR⟩ : ∃ R, R = (A2 * 4294967296 + u0) % Y := ⟨_, rfl⟩
              rw [← hR] at e13
              have HR : Hid _ := hR
              clear hR
              go_wp2_with fail
              go_ret2
              exact ⟨div_fin HQa.out HQb.out HR.out, rfl⟩
            have drb : decide ((4294967296 : Int) ≤ ((tb : Nat) : Int) + (y1 : Int)) = false := decide_eq_false (by omega)
            have hr'b : tb + y1 < 4294967296 := by omega
            clear hrb
            go_wp2_with fail
            go_round
            case rel => exact ⟨vb, tb + y1, rfl, by go_num, hr'b, by omega, HMb.out.1⟩
            case measure => simp [intOf]; have := HMb.out.2; omega
          by_cases hcb : tb * 4294967296 + u0 < gb * y0
          · obtain ⟨hpb, HNb⟩ := HDb.out.step hY.out.1 HA2.out hu0 (.inr hcb)
            have dbb : decide ((4294967296 : Int) ≤ ((gb : Nat) : Int)) = false := decide_eq_false (by omega)
            have mmb : IntKind.u64.wrap (((gb : Nat) : Int) * (y0 : Int)) = ((gb : Nat) : Int) * (y0 : Int) := wrap_mul _ _ (by omega) (by omega)
            have dcb : decide ((4294967296 : Int) * ((tb : Nat) : Int) + (u0 : Int) < ((gb : Nat) : Int) * (y0 : Int)) = true := decide_eq_true (lt_cast hcb)
            obtain ⟨vb, hvb⟩ : ∃ v, v = gb - 1 := ⟨_, rfl⟩
            have evb : ((gb : Nat) : Int) - 1 = ((vb : Nat) : Int) := by omega
            have vlb : vb < 18446744073709551616 := by omega
            have HMb : Hid (Dig A2 u0 Y y1 vb (tb + y1) ∧ vb < gb) := ⟨by rw [hvb]; exact HNb, by omega⟩
            clear HNb hvb hbb hcb
            by_cases hrb : 4294967296 ≤ tb + y1
            · have drb : decide ((4294967296 : Int) ≤ ((tb : Nat) : Int) + (y1 : Int)) = true := decide_eq_true (by omega)
              have HQb : Hid (vb = (A2 * 4294967296 + u0) / Y) := HMb.out.1.broke hY.out.1 HA2.out hy0 hrb
              have hqb : (vb : Int) < 4294967296 := by have := dig_lt HA2.out hu0; rw [← HQb.out] at this; omega
              clear hrb
              have e13 : IntKind.u64.wrap (IntKind.u64.wrap (IntKind.u64.wrap ((A2 : Int) * 4294967296) + (u0 : Int)) - IntKind.u64.wrap (((vb : Nat) : Int) * (Y : Int))) = (((A2 * 4294967296 + u0) % Y : Nat) : Int) := rest_wrap HQb.out hY.out.2.2.1 HA2.out
              obtain ⟨R, hR⟩ : ∃ R, R = (A2 * 4294967296 + u0) % Y := ⟨_, rfl⟩
              rw [← hR] at e13
              have HR : Hid _ := hR
              clear hR
              go_wp2_with fail
              go_ret2
              exact ⟨div_fin HQa.out HQb.out HR.out, rfl⟩
            have drb : decide ((4294967296 : Int) ≤ ((tb : Nat) : Int) + (y1 : Int)) = false := decide_eq_false (by omega)
            have hr'b : tb + y1 < 4294967296 := by omega
            clear hrb
            go_wp2_with fail
            go_round
            case rel => exact ⟨vb, tb + y1, rfl, by go_num, hr'b, by omega, HMb.out.1⟩
            case measure => simp [intOf]; have := HMb.out.2; omega
          have dbb : decide ((4294967296 : Int) ≤ ((gb : Nat) : Int)) = false := decide_eq_false (by omega)
          have mmb : IntKind.u64.wrap (((gb : Nat) : Int) * (y0 : Int)) = ((gb : Nat) : Int) * (y0 : Int) := wrap_mul _ _ (by omega) (by omega)
          have dcb : decide ((4294967296 : Int) * ((tb : Nat) : Int) + (u0 : Int) < ((gb : Nat) : Int) * (y0 : Int)) = false := decide_eq_false (not_lt_cast hcb)
          have HQb : Hid (gb = (A2 * 4294967296 + u0) / Y) := HDb.out.done hY.out.1 HA2.out (by omega)
          have hqb : (gb : Int) < 4294967296 := by omega
          clear hcb hbb
          have e13 : IntKind.u64.wrap (IntKind.u64.wrap (IntKind.u64.wrap ((A2 : Int) * 4294967296) + (u0 : Int)) - IntKind.u64.wrap (((gb : Nat) : Int) * (Y : Int))) = (((A2 * 4294967296 + u0) % Y : Nat) : Int) := rest_wrap HQb.out hY.out.2.2.1 HA2.out
          obtain ⟨R, hR⟩ : ∃ R, R = (A2 * 4294967296 + u0) % Y := ⟨_, rfl⟩
          rw [← hR] at e13
          have HR : Hid _ := hR
          clear hR
          go_wp2_with fail
          go_ret2
          exact ⟨div_fin HQa.out HQb.out HR.out, rfl⟩
      have dra : decide ((4294967296 : Int) ≤ ((ta : Nat) : Int) + (y1 : Int)) = false := decide_eq_false (by omega)
      have hr'a : ta + y1 < 4294967296 := by omega
      clear hra
      go_wp2_with fail
      go_round
      case rel => exact ⟨va, ta + y1, rfl, by go_num, hr'a, by omega, HMa.out.1⟩
      case measure => simp [intOf]; have := HMa.out.2; omega
    have dba : decide ((4294967296 : Int) ≤ ((ga : Nat) : Int)) = false := decide_eq_false (by omega)
    have mma : IntKind.u64.wrap (((ga : Nat) : Int) * (y0 : Int)) = ((ga : Nat) : Int) * (y0 : Int) := wrap_mul _ _ (by omega) (by omega)
    have dca : decide ((4294967296 : Int) * ((ta : Nat) : Int) + (u1 : Int) < ((ga : Nat) : Int) * (y0 : Int)) = false := decide_eq_false (not_lt_cast hca)
    have HQa : Hid (ga = (A * 4294967296 + u1) / Y) := HDa.out.done hY.out.1 hY.out.2.1 (by omega)
    have hqa : (ga : Int) < 4294967296 := by omega
    clear hca hba
    have e12 : IntKind.u64.wrap (IntKind.u64.wrap (IntKind.u64.wrap ((A : Int) * 4294967296) + (u1 : Int)) - IntKind.u64.wrap (((ga : Nat) : Int) * (Y : Int))) = (A2 : Int) := by rw [rest_wrap HQa.out hY.out.2.2.1 hY.out.2.1, ← hY.out.2.2.2.1]
    go_wp2_with fail
    go_loop [18, 16] (fun a c => ∃ (gb tb : Nat), a = .int .u64 ((gb : Nat) : Int) ∧ c = .int .u64 ((tb : Nat) : Int) ∧ tb < 4294967296 ∧ gb < 18446744073709551616 ∧ Hid (Dig A2 u0 Y y1 gb tb)) (fun a _ => (intOf a).toNat)
    case atStart => exact ⟨q2, r2, rfl, rfl, hr2, hqq2, hY.out.2.2.2.2.2⟩
    case round =>
      obtain ⟨gb, tb, rfl, rfl, htb, hgb, HDb⟩ := hrel
      by_cases hbb : 4294967296 ≤ gb
      · obtain ⟨hpb, HNb⟩ := HDb.out.step hY.out.1 HA2.out hu0 (.inl hbb)
        have dbb : decide ((4294967296 : Int) ≤ ((gb : Nat) : Int)) = true := decide_eq_true (by omega)
        obtain ⟨vb, hvb⟩ : ∃ v, v = gb - 1 := ⟨_, rfl⟩
        have evb : ((gb : Nat) : Int) - 1 = ((vb : Nat) : Int) := by omega
        have vlb : vb < 18446744073709551616 := by omega
        have HMb : Hid (Dig A2 u0 Y y1 vb (tb + y1) ∧ vb < gb) := ⟨by rw [hvb]; exact HNb, by omega⟩
        clear HNb hvb hbb
        by_cases hrb : 4294967296 ≤ tb + y1
        · have drb : decide ((4294967296 : Int) ≤ ((tb : Nat) : Int) + (y1 : Int)) = true := decide_eq_true (by omega)
          have HQb : Hid (vb = (A2 * 4294967296 + u0) / Y) := HMb.out.1.broke hY.out.1 HA2.out hy0 hrb
          have hqb : (vb : Int) < 4294967296 := by have := dig_lt HA2.out hu0; rw [← HQb.out] at this; omega
          clear hrb
          have e13 : IntKind.u64.wrap (IntKind.u64.wrap (IntKind.u64.wrap ((A2 : Int) * 4294967296) + (u0 : Int)) - IntKind.u64.wrap (((vb : Nat) : Int) * (Y : Int))) = (((A2 * 4294967296 + u0) % Y : Nat) : Int) := rest_wrap HQb.out hY.out.2.2.1 HA2.out
          obtain ⟨R, hR⟩ : ∃ R, R = (A2 * 4294967296 + u0) % Y := ⟨_, rfl⟩
          rw [← hR] at e13
          have HR : Hid _ := hR
          clear hR
          go_wp2_with fail
          go_ret2
          exact ⟨div_fin HQa.out HQb.out HR.out, rfl⟩
        have drb : decide ((4294967296 : Int) ≤ ((tb : Nat) : Int) + (y1 : Int)) = false := decide_eq_false (by omega)
        have hr'b : tb + y1 < 4294967296 := by omega
        clear hrb
        go_wp2_with fail
        go_round
        case rel => exact ⟨vb, tb + y1, rfl, by go_num, hr'b, by omega, HMb.out.1⟩
        case measure => simp [intOf]; have := HMb.out.2; omega
      by_cases hcb : tb * 4294967296 + u0 < gb * y0
      · obtain ⟨hpb, HNb⟩ := HDb.out.step hY.out.1 HA2.out hu0 (.inr hcb)
        have dbb : decide ((4294967296 : Int) ≤ ((gb : Nat) : Int)) = false := decide_eq_false (by omega)
        have mmb : IntKind.u64.wrap (((gb : Nat) : Int) * (y0 : Int)) = ((gb : Nat) : Int) * (y0 : Int) := wrap_mul _ _ (by omega) (by omega)
        have dcb : decide ((4294967296 : Int) * ((tb : Nat) : Int) + (u0 : Int) < ((gb : Nat) : Int) * (y0 : Int)) = true := decide_eq_true (lt_cast hcb)
        obtain ⟨vb, hvb⟩ : ∃ v, v = gb - 1 := ⟨_, rfl⟩
        have evb : ((gb : Nat) : Int) - 1 = ((vb : Nat) : Int) := by omega
        have vlb : vb < 18446744073709551616 := by omega
        have HMb : Hid (Dig A2 u0 Y y1 vb (tb + y1) ∧ vb < gb) := ⟨by rw [hvb]; exact HNb, by omega⟩
        clear HNb hvb hbb hcb
        by_cases hrb : 4294967296 ≤ tb + y1
        · have drb : decide ((4294967296 : Int) ≤ ((tb : Nat) : Int) + (y1 : Int)) = true := decide_eq_true (by omega)
          have HQb : Hid (vb = (A2 * 4294967296 + u0) / Y) := HMb.out.1.broke hY.out.1 HA2.out hy0 hrb
          have hqb : (vb : Int) < 4294967296 := by have := dig_lt HA2.out hu0; rw [← HQb.out] at this; omega
          clear hrb
          have e13 : IntKind.u64.wrap (IntKind.u64.wrap (IntKind.u64.wrap ((A2 : Int) * 4294967296) + (u0 : Int)) - IntKind.u64.wrap (((vb : Nat) : Int) * (Y : Int))) = (((A2 * 4294967296 + u0) % Y : Nat) : Int) := rest_wrap HQb.out hY.out.2.2.1 HA2.out
          obtain ⟨R, hR⟩ : ∃ R, R = (A2 * 4294967296 + u0) % Y := ⟨_, rfl⟩
          rw [← hR] at e13
          have HR : Hid _ := hR
          clear hR
          go_wp2_with fail
          go_ret2
          exact ⟨div_fin HQa.out HQb.out HR.out, rfl⟩
        have drb : decide ((4294967296 : Int) ≤ ((tb : Nat) : Int) + (y1 : Int)) = false := decide_eq_false (by omega)
        have hr'b : tb + y1 < 4294967296 := by omega
        clear hrb
        go_wp2_with fail
        go_round
        case rel => exact ⟨vb, tb + y1, rfl, by go_num, hr'b, by omega, HMb.out.1⟩
        case measure => simp [intOf]; have := HMb.out.2; omega
      have dbb : decide ((4294967296 : Int) ≤ ((gb : Nat) : Int)) = false := decide_eq_false (by omega)
      have mmb : IntKind.u64.wrap (((gb : Nat) : Int) * (y0 : Int)) = ((gb : Nat) : Int) * (y0 : Int) := wrap_mul _ _ (by omega) (by omega)
      have dcb : decide ((4294967296 : Int) * ((tb : Nat) : Int) + (u0 : Int) < ((gb : Nat) : Int) * (y0 : Int)) = false := decide_eq_false (not_lt_cast hcb)
      have HQb : Hid (gb = (A2 * 4294967296 + u0) / Y) := HDb.out.done hY.out.1 HA2.out (by omega)
      have hqb : (gb : Int) < 4294967296 := by omega
      clear hcb hbb
      have e13 : IntKind.u64.wrap (IntKind.u64.wrap (IntKind.u64.wrap ((A2 : Int) * 4294967296) + (u0 : Int)) - IntKind.u64.wrap (((gb : Nat) : Int) * (Y : Int))) = (((A2 * 4294967296 + u0) % Y : Nat) : Int) := rest_wrap HQb.out hY.out.2.2.1 HA2.out
      obtain ⟨R, hR⟩ : ∃ R, R = (A2 * 4294967296 + u0) % Y := ⟨_, rfl⟩
      rw [← hR] at e13
      have HR : Hid _ := hR
      clear hR
      go_wp2_with fail
      go_ret2
      exact ⟨div_fin HQa.out HQb.out HR.out, rfl⟩
theorem norm_bounds (y : Nat) (h0 : 0 < y) (hy : y < 18446744073709551616) : y * 2 ^ (64 - bitLen y) < 18446744073709551616 ∧ 9223372036854775808 ≤ y * 2 ^ (64 - bitLen y) ∧ 64 - bitLen y ≤ 63 := by
  obtain ⟨h1, h2⟩ := bitLen_spec y
  have h3 := h2 (by omega)
  have h4 := bitLen_le64 y hy
  have hb : 0 < bitLen y := by
    rcases Nat.eq_zero_or_pos (bitLen y) with e | e
    · rw [e, Nat.pow_zero] at h1
      omega
    exact e
  refine ⟨?_, ?_, by omega⟩
  · have := Nat.mul_lt_mul_of_pos_right h1 (Nat.two_pow_pos (64 - bitLen y))
    rw [← two64 (bitLen y) h4] at this
    exact this
  have := Nat.mul_le_mul_right (2 ^ (64 - bitLen y)) h3
  rw [← Nat.pow_add, show bitLen y - 1 + (64 - bitLen y) = 63 by omega] at this
  exact this
theorem and_low (z : Nat) (hz : z < 18446744073709551616) : bits .and .u64 (z : Int) 4294967295 = ((z % 4294967296 : Nat) : Int) := Go.Proofs.Mul64.maskN z hz
theorem glue_lin (A u1 u0 D M : Nat) (h : D + M = A * 4294967296 + u1) : A * 18446744073709551616 + (u1 * 4294967296 + u0) = D * 4294967296 + (M * 4294967296 + u0) := by omega
theorem div_glue {A L u1 u0 Y T : Nat} (hL : L = u1 * 4294967296 + u0) (hT : T = A * 18446744073709551616 + L) (hY : 0 < Y) :
    T / Y = (A * 4294967296 + u1) / Y * 4294967296 + ((A * 4294967296 + u1) % Y * 4294967296 + u0) / Y ∧ T % Y = ((A * 4294967296 + u1) % Y * 4294967296 + u0) % Y := by
  have h1 := Nat.div_add_mod (A * 4294967296 + u1) Y
  have e : T = Y * ((A * 4294967296 + u1) / Y * 4294967296) + ((A * 4294967296 + u1) % Y * 4294967296 + u0) := by
    rw [← Nat.mul_assoc, hT, hL]
    exact glue_lin _ _ _ _ _ h1
  rw [e, Nat.mul_add_div hY, Nat.mul_add_mod]
  exact ⟨rfl, rfl⟩
theorem div64_any (hi lo y : Nat) (w : World) (hhy : hi < y) (hl : lo < 18446744073709551616) (hy : y < 18446744073709551616) :
    Calls Tryz.prog 137 #[.int .u64 (hi : Int), .int .u64 (lo : Int), .int .u64 (y : Int)] w fun e w' => e = .returned (.tuple #[.int .u64 (((hi * 18446744073709551616 + lo) / y : Nat) : Int), .int .u64 (((hi * 18446744073709551616 + lo) % y : Nat) : Int)]) ∧ ∃ n, w' = w.drewN n := by
  by_cases h0 : hi = 0
  · subst h0
    rw [Nat.zero_mul, Nat.zero_add]
    exact div64_small lo y w hl hy (by omega)
  obtain ⟨n1, n2, n3⟩ := norm_bounds y (by omega) hy
  obtain ⟨s, hs⟩ : ∃ s, s = 64 - bitLen y := ⟨_, rfl⟩
  rw [← hs] at n1 n2 n3
  obtain ⟨Y, hY⟩ : ∃ Y, Y = y * 2 ^ s := ⟨_, rfl⟩
  rw [← hY] at n1 n2
  have hp := Nat.two_pow_pos s
  have hhi : (hi + 1) * 2 ^ s ≤ Y := by rw [hY]; exact Nat.mul_le_mul_right _ hhy
  rw [Nat.add_mul, Nat.one_mul] at hhi
  have hlo : lo / 2 ^ (64 - s) < 2 ^ s := by
    rw [Nat.div_lt_iff_lt_mul (Nat.two_pow_pos _), ← two64 s (by omega)]
    exact hl
  obtain ⟨A, hA⟩ : ∃ A, A = hi * 2 ^ s + lo / 2 ^ (64 - s) := ⟨_, rfl⟩
  obtain ⟨L, hL⟩ : ∃ L, L = lo * 2 ^ s % 18446744073709551616 := ⟨_, rfl⟩
  have hL64 : L < 18446744073709551616 := by rw [hL]; exact Nat.mod_lt _ (by omega)
  have hAY : A < Y := by omega
  have e1 : IntKind.u64.wrap ((y : Int) * 2 ^ s) = (Y : Int) := by
    rw [show (y : Int) * 2 ^ s = ((y * 2 ^ s : Nat) : Int) by rw [Int.natCast_mul, cast_pow2], ← hY]
    exact wrapU_nat _ n1
  have e4 : bits .or .u64 (IntKind.u64.wrap ((hi : Int) * 2 ^ s)) ((lo : Int) / 2 ^ (64 - s)) = (A : Int) := by
    rw [show (hi : Int) * 2 ^ s = ((hi * 2 ^ s : Nat) : Int) by rw [Int.natCast_mul, cast_pow2], wrapU_nat _ (by omega), div_int, bits_or_u64_nat _ _ (by omega) (by omega), or_add _ _ s (Nat.mul_mod_left _ _) hlo, hA]
  have e5 : IntKind.u64.wrap ((lo : Int) * 2 ^ s) = (L : Int) := by
    rw [show (lo : Int) * 2 ^ s = ((lo * 2 ^ s : Nat) : Int) by rw [Int.natCast_mul, cast_pow2], wrapU_mod, hL]
  obtain ⟨y1, hy1⟩ : ∃ y1, y1 = Y / 4294967296 := ⟨_, rfl⟩
  have hy1p : 0 < y1 := by omega
  obtain ⟨A2, hA2⟩ : ∃ A2, A2 = (A * 4294967296 + L / 4294967296) % Y := ⟨_, rfl⟩
  have hA2Y : A2 < Y := by rw [hA2]; exact Nat.mod_lt _ (by omega)
  have hYs : Y = y1 * 4294967296 + Y % 4294967296 := by omega
  have hc := div64_core hi lo y s Y y1 (Y % 4294967296) A L (L / 4294967296) (L % 4294967296) (A / y1) (A % y1) A2 (A2 / y1) (A2 % y1) w (by omega) hhy hl hy hs n3
    e1 (by omega) (and_low Y n1) e4 e5 (by omega) (and_low L hL64) (wrap_quo A y1 (by omega)) (wrap_rem A y1 (by omega))
    ⟨hYs, hAY, n1, hA2, dig_start hYs (by omega) hy1p, dig_start hYs (by omega) hy1p⟩
    (Nat.mod_lt _ (by omega)) hy1p (by omega) (by omega) (Nat.mod_lt _ (by omega)) (by have := Nat.mod_lt A hy1p; omega) (by have := Nat.mod_lt A2 hy1p; omega) (Nat.lt_of_le_of_lt (Nat.div_le_self _ _) (by omega)) (Nat.lt_of_le_of_lt (Nat.div_le_self _ _) (by omega))
    (wrap_quo A2 y1 (by omega)) (wrap_rem A2 y1 (by omega))
  refine hc.mono fun e w' hh => ⟨hh.1.trans ?_, 0, hh.2⟩
  have hT : (hi * 18446744073709551616 + lo) * 2 ^ s = A * 18446744073709551616 + L := by
    have := shl_lo lo s (by omega)
    rw [← hL] at this
    rw [Nat.add_mul, hA, Nat.add_mul, Nat.mul_right_comm]
    omega
  obtain ⟨g1, g2⟩ := div_glue (A := A) (L := L) (u1 := L / 4294967296) (u0 := L % 4294967296) (Y := Y) (by omega) hT (by omega)
  rw [hY, Nat.mul_div_mul_right _ _ hp, ← hY] at g1
  rw [hY, Nat.mul_mod_mul_right, ← hY] at g2
  rw [hA2, ← g1, ← g2, Nat.mul_div_cancel _ hp]
theorem V_cons (G : Nat → Nat) (m : Nat) : V G (m + 1) = G 0 + 18446744073709551616 * V (fun i => G (1 + i)) m := by
  rw [Nat.add_comm m 1, V_split, P_one, V_succ, V_zero, P_zero, Nat.zero_add, Nat.mul_one]
def DW (w wr : World) (b N o n y : Nat) (F : Nat → Nat) (k rest : Nat) (H : Nat → Nat) : Prop :=
  Row wr b N H ∧ (∀ j, j < o + k ∨ o + n ≤ j → H j = F j) ∧ rest < y ∧ V (fro F o) n = y * (P k * V (fro H (o + k)) (n - k)) + (rest * P k + V (fro F o) k) ∧ w.grownBy wr (some b)
theorem DW.start {w : World} {b N n y : Nat} {F : Nat → Nat} (o : Nat) (h : Row w b N F) (hy : 0 < y) : DW w w b N o n y F n 0 F :=
  ⟨h, fun _ _ => rfl, hy, by rw [Nat.sub_self, V_zero]; simp, World.grownBy.refl _ _⟩
theorem dw_lin (X y q P r' U rest T f c : Nat) (h1 : rest * 18446744073709551616 + f = y * q + r') (h2 : X = y * (P * 18446744073709551616 * U) + (rest * (P * 18446744073709551616) + (c + f * P))) :
    X = y * (P * (q + 18446744073709551616 * U)) + (r' * P + c) := by
  have e1 : y * (P * (q + 18446744073709551616 * U)) = y * q * P + y * (P * 18446744073709551616 * U) := by
    rw [Nat.mul_add, Nat.mul_add, Nat.mul_assoc y q, Nat.mul_comm q, Nat.mul_assoc P]
  have e2 := congrArg (· * P) h1
  simp only [Nat.add_mul] at e2
  have e3 : rest * (P * 18446744073709551616) = rest * 18446744073709551616 * P := by rw [Nat.mul_assoc, Nat.mul_comm P]
  rw [h2, e1, e3]
  omega
theorem DW.step {w wr : World} {b N o n y : Nat} {F : Nat → Nat} {t rest : Nat} {H : Nat → Nat} (h : DW w wr b N o n y F (t + 1) rest H) (hn : o + n ≤ N) (ht : t < n) (hy : y < 18446744073709551616) :
    (rest * 18446744073709551616 + H (o + t)) / y < 18446744073709551616 ∧
    DW w (wr.setCell ⟨b, o + t, none⟩ (.int .u64 (((rest * 18446744073709551616 + H (o + t)) / y : Nat) : Int))) b N o n y F t ((rest * 18446744073709551616 + H (o + t)) % y) (put H (o + t) ((rest * 18446744073709551616 + H (o + t)) / y)) := by
  obtain ⟨h1, h2, h3, h4, h5⟩ := h
  have hH : H (o + t) < 18446744073709551616 := h1.2 _ (by omega)
  have hF : H (o + t) = F (o + t) := h2 _ (by omega)
  have hq : (rest * 18446744073709551616 + H (o + t)) / y < 18446744073709551616 := by
    rw [Nat.div_lt_iff_lt_mul (by omega)]
    have : (rest + 1) * 18446744073709551616 ≤ y * 18446744073709551616 := Nat.mul_le_mul_right _ h3
    rw [Nat.mul_comm 18446744073709551616 y]
    omega
  refine ⟨hq, h1.set _ hq, fun j hj => ?_, Nat.mod_lt _ (by omega), ?_, grown_set _ h5 _ _⟩
  · rw [put_other _ _ (by omega)]
    exact h2 j (by omega)
  have e1 : V (fro (put H (o + t) ((rest * 18446744073709551616 + H (o + t)) / y)) (o + t)) (n - t) = (rest * 18446744073709551616 + H (o + t)) / y + 18446744073709551616 * V (fro H (o + (t + 1))) (n - (t + 1)) := by
    rw [show n - t = (n - (t + 1)) + 1 by omega, V_cons]
    congr 1
    · exact put_same _ _ _
    congr 1
    refine V_congr fun i hi => ?_
    show put H (o + t) _ (o + t + (1 + i)) = H (o + (t + 1) + i)
    rw [put_other _ _ (by omega), show o + t + (1 + i) = o + (t + 1) + i by omega]
  rw [e1]
  rw [P_succ, V_succ] at h4
  refine dw_lin _ _ _ _ _ _ rest 0 (H (o + t)) _ (Nat.div_add_mod _ _).symm ?_
  rw [h4, hF]
  rfl
set_option maxHeartbeats 1000000 in
theorem divideByWord_any (b N o n cap y : Nat) (F : Nat → Nat) (w : World) (hF : Row w b N F) (ho : o + n ≤ N) (hn : n ≤ 1099511627776) (hy0 : 0 < y) (hy : y < 18446744073709551616) :
    Calls Tryz.prog 125 #[.slice (some ⟨b, o, none⟩) n cap, .int .u64 (y : Int)] w fun e w' => ∃ c : Nat, e = .returned (.int .u64 (c : Int)) ∧ ∃ H, DW w w' b N o n y F 0 c H := by
  have A0 := DW.start (n := n) o hF hy0
  clear hF
  go_enter Tryz.func125, Tryz.ntmps125
  go_wp2_with fail
  go_loopw [5, 6] (fun cv t wr => ∃ (k c : Nat) (H : Nat → Nat), k ≤ n ∧ t = .int .i64 ((k : Int) - 1) ∧ cv = .int .u64 ((c : Nat) : Int) ∧ DW w wr b N o n y F k c H) (fun _ t _ => (intOf t + 1).toNat)
  case atStart => exact ⟨n, 0, F, Nat.le_refl _, rfl, rfl, A0⟩
  case round =>
    clear A0
    obtain ⟨k, c, H, hk, rfl, rfl, hA⟩ := hrel
    by_cases hk0 : k = 0
    · subst hk0
      have HA : Hid _ := hA
      clear hA
      go_wp2_with fail
      go_ret
      exact ⟨c, rfl, H, HA.out⟩
    obtain ⟨t, rfl⟩ : ∃ t, k = t + 1 := ⟨k - 1, by omega⟩
    have hc2 : wr.cell? ⟨b, o + t, none⟩ = some (.int .u64 (H (o + t) : Nat)) := hA.1.cell (by omega)
    have hf2 : wr.frozen? ⟨b, o + t, none⟩ = false := hA.1.frozen _
    have S : Hid _ := (hA.step ho (by omega) hy).2
    have hcy : c < y := hA.2.2.1
    have hH : H (o + t) < 18446744073709551616 := hA.1.2 _ (by omega)
    clear hA
    go_wp2_with fail
    refine (div64_any c (H (o + t)) y _ hcy hH hy).mono ?_
    rintro e w1 ⟨rfl, nd, rfl⟩
    go_wp2_with fail
    go_roundw
    case rel => exact ⟨t, _, _, by omega, by go_num, rfl, by obtain ⟨q1, q2, q3, q4, q5⟩ := S.out; exact ⟨q1, q2, q3, q4, grown_drew q5 nd⟩⟩
    case measure => simp [intOf]
theorem DW.fin {w wr : World} {b N o n y c : Nat} {F H : Nat → Nat} (h : DW w wr b N o n y F 0 c H) : V (fro H o) n = V (fro F o) n / y ∧ c = V (fro F o) n % y := by
  obtain ⟨_, _, h3, h4, _⟩ := h
  rw [P_zero, V_zero, Nat.one_mul, Nat.mul_one, Nat.add_zero, Nat.sub_zero, Nat.add_zero] at h4
  rw [h4, Nat.mul_add_div (by omega), Nat.div_eq_of_lt h3, Nat.add_zero, Nat.mul_add_mod, Nat.mod_eq_of_lt h3]
  exact ⟨rfl, rfl⟩
def Dig2 (A u Y y1 q r : Nat) : Prop := q * y1 + r = A ∧ (A * 18446744073709551616 + u) / Y ≤ q
theorem dig2_id (y1 y0 q r u : Nat) : q * (y1 * 18446744073709551616 + y0) + (r * 18446744073709551616 + u) = (q * y1 + r) * 18446744073709551616 + u + q * y0 := by
  rw [Nat.mul_add, Nat.add_mul, Nat.mul_assoc q]
  omega
theorem dig2_start {A u Y y1 y0 : Nat} (hY : Y = y1 * 18446744073709551616 + y0) (hu : u < 18446744073709551616) (hy1 : 0 < y1) : Dig2 A u Y y1 (A / y1) (A % y1) := by
  refine ⟨by rw [Nat.mul_comm]; exact Nat.div_add_mod A y1, ?_⟩
  have h1 : (A * 18446744073709551616 + u) / Y ≤ (A * 18446744073709551616 + u) / (y1 * 18446744073709551616) := Nat.div_le_div_left (by omega) (by omega)
  have h2 : (A * 18446744073709551616 + u) / (y1 * 18446744073709551616) = A / y1 := by
    rw [Nat.mul_comm y1, ← Nat.div_div_eq_div_mul, Nat.mul_comm A, Nat.mul_add_div (by omega), Nat.div_eq_of_lt hu, Nat.add_zero]
  rw [h2] at h1
  exact h1
theorem Dig2.step {A u Y y1 y0 q r : Nat} (h : Dig2 A u Y y1 q r) (hY : Y = y1 * 18446744073709551616 + y0) (hY0 : 0 < Y) (hc : r * 18446744073709551616 + u < q * y0) : 0 < q ∧ Dig2 A u Y y1 (q - 1) (r + y1) := by
  obtain ⟨h1, h2⟩ := h
  have hlt : (A * 18446744073709551616 + u) / Y < q := by
    rw [Nat.div_lt_iff_lt_mul hY0]
    have := dig2_id y1 y0 q r u
    rw [h1, ← hY] at this
    exact lin_lt this hc
  refine ⟨Nat.lt_of_le_of_lt (Nat.zero_le _) hlt, ?_, Nat.le_sub_one_of_lt hlt⟩
  have hq0 : 0 < q := Nat.lt_of_le_of_lt (Nat.zero_le _) hlt
  clear hlt hc h2
  obtain ⟨t, rfl⟩ : ∃ t, q = t + 1 := ⟨q - 1, by omega⟩
  rw [Nat.add_mul] at h1
  simp only [Nat.add_sub_cancel]
  omega
theorem Dig2.done {A u Y y1 y0 q r : Nat} (h : Dig2 A u Y y1 q r) (hY : Y = y1 * 18446744073709551616 + y0) (hY0 : 0 < Y) (hc : q * y0 ≤ r * 18446744073709551616 + u) : q = (A * 18446744073709551616 + u) / Y := by
  obtain ⟨h1, h2⟩ := h
  refine Nat.le_antisymm ?_ h2
  rw [Nat.le_div_iff_mul_le hY0]
  have := dig2_id y1 y0 q r u
  rw [h1, ← hY] at this
  exact lin_le this hc
theorem Dig2.broke {A u Y y1 y0 q r : Nat} (h : Dig2 A u Y y1 q r) (hY : Y = y1 * 18446744073709551616 + y0) (hY0 : 0 < Y) (hq : q < 18446744073709551616) (h0 : y0 < 18446744073709551616) (hr : 18446744073709551616 ≤ r) : q = (A * 18446744073709551616 + u) / Y := by
  refine h.done hY hY0 ?_
  have h4 : q * y0 ≤ 18446744073709551616 * 18446744073709551616 := Nat.mul_le_mul (Nat.le_of_lt hq) (Nat.le_of_lt h0)
  have h5 : 18446744073709551616 * 18446744073709551616 ≤ r * 18446744073709551616 := Nat.mul_le_mul_right _ hr
  exact Nat.le_trans h4 (Nat.le_trans h5 (Nat.le_add_right _ _))
theorem mul_pred {q y0 : Nat} (hq : 0 < q) (hy : y0 < 18446744073709551616) : subLo (mulLo q y0) y0 0 = mulLo (q - 1) y0 ∧ subHi (mulLo q y0) y0 0 + mulHi (q - 1) y0 = mulHi q y0 := by
  obtain ⟨t, rfl⟩ : ∃ t, q = t + 1 := ⟨q - 1, by omega⟩
  simp only [Nat.add_sub_cancel]
  have h1 := mul_eq (t + 1) y0
  have h2 := mul_eq t y0
  have h3 := sub_eq (mulLo (t + 1) y0) y0 0 (mulLo_lt _ _) hy (by omega)
  have h4 := mulLo_lt t y0
  have h5 := mulLo_lt (t + 1) y0
  have h6 := subLo_lt (mulLo (t + 1) y0) y0 0
  rw [Nat.add_mul, Nat.one_mul] at h1
  generalize mulLo (t + 1) y0 = a at *
  generalize mulHi (t + 1) y0 = b at *
  generalize mulLo t y0 = c at *
  generalize mulHi t y0 = d at *
  generalize subLo a y0 0 = e at *
  generalize subHi a y0 0 = f at *
  generalize t * y0 = g at *
  omega
theorem guess_ge {R Y T low ylow p q : Nat} {R3 : Nat} (hR : R = R3 * p + low) (hl : low < p) (hY : Y = T * p + ylow) (hT : 0 < T) (hq : q = R3 / T) : R / Y ≤ q := by
  rw [hq, Nat.le_div_iff_mul_le hT]
  have h1 : R / Y * Y ≤ R := Nat.div_mul_le_self R Y
  have h2 : R / Y * (T * p) ≤ R / Y * Y := Nat.mul_le_mul_left _ (by omega)
  have h3 : R / Y * T * p < (R3 + 1) * p := by rw [Nat.mul_assoc, Nat.add_mul]; omega
  have := Nat.lt_of_mul_lt_mul_right h3
  omega
theorem guess_le {R Y T low ylow p q : Nat} {R3 : Nat} (hR : R = R3 * p + low) (hY : Y = T * p + ylow) (hyl : ylow < p) (hT : 0 < T) (hY0 : 0 < Y) (hq : q = R3 / T) (hqT : q ≤ T) : q ≤ R / Y + 1 := by
  rcases Nat.eq_zero_or_pos q with h0 | h0
  · rw [h0]; exact Nat.zero_le _
  obtain ⟨t, rfl⟩ : ∃ t, q = t + 1 := ⟨q - 1, by omega⟩
  have h1 : t ≤ R / Y := by
    rw [Nat.le_div_iff_mul_le hY0]
    have h2 : (t + 1) * T ≤ R3 := by rw [hq]; exact Nat.div_mul_le_self R3 T
    have h3 : t * Y ≤ t * ((T + 1) * p) := Nat.mul_le_mul_left _ (by rw [hY, Nat.add_mul]; omega)
    have h4 : t * (T + 1) ≤ R3 := by rw [Nat.add_mul] at h2; rw [Nat.mul_add]; omega
    have h5 : t * ((T + 1) * p) ≤ R3 * p := by rw [← Nat.mul_assoc]; exact Nat.mul_le_mul_right _ h4
    omega
  exact Nat.succ_le_succ h1
def guess (r0 r1 r2 y0 y1 : Nat) : Nat := if y1 ≤ r2 then 18446744073709551615 else ((r2 * 18446744073709551616 + r1) * 18446744073709551616 + r0) / (y1 * 18446744073709551616 + y0)
set_option maxHeartbeats 1000000 in
theorem guess_top (b o cap b' o' cap' : Nat) (r2 y1 : Nat) (w : World) (hr2 : w.cell? ⟨b, o + 2, none⟩ = some (.int .u64 (r2 : Int))) (hy1 : w.cell? ⟨b', o' + 1, none⟩ = some (.int .u64 (y1 : Int))) (h : y1 ≤ r2) :
    Calls Tryz.prog 159 #[.slice (some ⟨b, o, none⟩) 3 cap, .slice (some ⟨b', o', none⟩) 2 cap'] w fun e w' => e = .returned (.int .u64 18446744073709551615) ∧ ∃ n, w' = w.drewN n := by
  have hd : decide ((y1 : Int) ≤ (r2 : Int)) = true := decide_eq_true (by omega)
  have hd' : decide (y1 ≤ r2) = true := decide_eq_true h
  go_enter Tryz.func159, Tryz.ntmps159
  go_wp2_with fail
  go_region
  go_wp2_with fail
  go_ret
  exact ⟨rfl, 1, rfl⟩
theorem quiet_k {f : FuncId} {args : Array Value} {w : World} {k n : Nat} {v : Value} (h : Calls Tryz.prog f args (w.drewN (k + n)) fun e w' => e = .returned v ∧ ∃ m, w' = (w.drewN (k + n)).drewN m) :
    Calls Tryz.prog f args (w.drewN (k + n)) fun e w'' => e = .returned v ∧ ∃ m, w'' = w.drewN (k + m) :=
  h.mono fun _ _ ⟨he, m, hm⟩ => ⟨he, n + m, by rw [hm, World.drewN_drewN, Nat.add_assoc]⟩
theorem div64_qr (r2 r1 y1 q r A : Nat) (w : World) (h : r2 < y1) (l1 : r1 < 18446744073709551616) (m1 : y1 < 18446744073709551616) (hA : A = r2 * 18446744073709551616 + r1) (hq : q = A / y1 ∧ r = A % y1) :
    Calls Tryz.prog 137 #[.int .u64 (r2 : Int), .int .u64 (r1 : Int), .int .u64 (y1 : Int)] w fun e w' => e = .returned (.tuple #[.int .u64 (q : Int), .int .u64 (r : Int)]) ∧ ∃ n, w' = w.drewN n := by
  rw [hq.1, hq.2, hA]
  exact div64_any r2 r1 y1 w h l1 m1
set_option maxHeartbeats 2000000 in
theorem guess_low (b o cap b' o' cap' : Nat) (r0 r1 r2 y0 y1 G : Nat) (w : World) (hG : G = ((r2 * 18446744073709551616 + r1) * 18446744073709551616 + r0) / (y1 * 18446744073709551616 + y0)) (hr0 : w.cell? ⟨b, o, none⟩ = some (.int .u64 (r0 : Int))) (hr1 : w.cell? ⟨b, o + 1, none⟩ = some (.int .u64 (r1 : Int))) (hr2 : w.cell? ⟨b, o + 2, none⟩ = some (.int .u64 (r2 : Int)))
    (hy0 : w.cell? ⟨b', o', none⟩ = some (.int .u64 (y0 : Int))) (hy1 : w.cell? ⟨b', o' + 1, none⟩ = some (.int .u64 (y1 : Int))) (h : r2 < y1) (l0 : r0 < 18446744073709551616) (l1 : r1 < 18446744073709551616) (m0 : y0 < 18446744073709551616) (m1 : y1 < 18446744073709551616) :
    Calls Tryz.prog 159 #[.slice (some ⟨b, o, none⟩) 3 cap, .slice (some ⟨b', o', none⟩) 2 cap'] w fun e w' => e = .returned (.int .u64 (G : Int)) ∧ ∃ n, w' = w.drewN n := by
  have hd' : decide (y1 ≤ r2) = false := decide_eq_false (by omega)
  obtain ⟨A, hA⟩ : ∃ A, A = r2 * 18446744073709551616 + r1 := ⟨_, rfl⟩
  have HA : Hid (A = r2 * 18446744073709551616 + r1) := hA
  have hq0 : A / y1 < 18446744073709551616 := by
    rw [Nat.div_lt_iff_lt_mul (by omega), hA]
    have : (r2 + 1) * 18446744073709551616 ≤ y1 * 18446744073709551616 := Nat.mul_le_mul_right _ h
    rw [Nat.mul_comm 18446744073709551616 y1]
    omega
  have hrr : A % y1 < y1 := Nat.mod_lt _ (by omega)
  have D0 : Hid (Dig2 A r0 (y1 * 18446744073709551616 + y0) y1 (A / y1) (A % y1)) := dig2_start rfl l0 (by omega)
  obtain ⟨q, hq⟩ : ∃ q, q = A / y1 := ⟨_, rfl⟩
  obtain ⟨r, hr⟩ : ∃ r, r = A % y1 := ⟨_, rfl⟩
  rw [← hq] at hq0 D0
  rw [← hr] at hrr D0
  have HQ : Hid (q = A / y1 ∧ r = A % y1) := ⟨hq, hr⟩
  rw [← hA] at hG
  have HG : Hid (G = (A * 18446744073709551616 + r0) / (y1 * 18446744073709551616 + y0)) := hG
  clear hq hr hA hG
  go_enter Tryz.func159, Tryz.ntmps159
  go_wp2_with fail
  go_region
  go_wp2_with fail
  go_quiet ((go_at_call 137; exact quiet_k (div64_qr r2 r1 y1 q r A _ h l1 m1 HA.out HQ.out)))
  go_wp2_with fail
  refine (mul64_any q y0 _ hq0 m0).mono ?_
  rintro e w1 ⟨rfl, rfl⟩
  have hYp : 0 < y1 * 18446744073709551616 + y0 := by omega
  go_wp2_with fail
  go_loop [5, 6, 7, 8] (fun a c d e => ∃ (g t : Nat), a = .int .u64 ((g : Nat) : Int) ∧ c = .int .u64 ((t : Nat) : Int) ∧ d = .int .u64 ((mulHi g y0 : Nat) : Int) ∧ e = .int .u64 ((mulLo g y0 : Nat) : Int) ∧ t < 18446744073709551616 ∧ g < 18446744073709551616 ∧ Hid (Dig2 A r0 (y1 * 18446744073709551616 + y0) y1 g t)) (fun a _ _ _ => (intOf a).toNat)
  case atStart => exact ⟨q, r, rfl, rfl, rfl, rfl, by omega, hq0, D0⟩
  case round =>
    obtain ⟨g, t, rfl, rfl, rfl, rfl, ht, hg, HD⟩ := hrel
    have me := mul_eq g y0
    have ml := mulLo_lt g y0
    rcases Nat.lt_trichotomy t (mulHi g y0) with h1 | h1 | h1
    · have d1 : decide (t < mulHi g y0) = true := decide_eq_true h1
      have hc : t * 18446744073709551616 + r0 < g * y0 := by omega
      clear me ml h1
      obtain ⟨hp, HN⟩ := HD.out.step rfl hYp hc
      obtain ⟨v, hv⟩ : ∃ v, v = g - 1 := ⟨_, rfl⟩
      have ev : ((g : Nat) : Int) - 1 = ((v : Nat) : Int) := by omega
      have vl : v < 18446744073709551616 := by omega
      obtain ⟨mp1, mp2⟩ := mul_pred hp m0
      rw [← hv] at mp1 mp2
      have HM : Hid (Dig2 A r0 (y1 * 18446744073709551616 + y0) y1 v (t + y1) ∧ v < g) := ⟨by rw [hv]; exact HN, by omega⟩
      have ad := add64_c0 t y1
      have sb := sub64_c0 (mulLo g y0) y0
      have ae := add_eq t y1 0
      have ahl := addHi_le t y1 0 ht m1 (by omega)
      have mvl := mulHi_le v y0 vl m0
      have mv2 : ((mulHi g y0 : Nat) : Int) - ((subHi (mulLo g y0) y0 0 : Nat) : Int) = ((mulHi v y0 : Nat) : Int) := by omega
      have mvb : ((mulHi v y0 : Nat) : Int) < 18446744073709551616 := by omega
      clear HN hv hc mp2 mvl
      by_cases hcy : addHi t y1 0 = 0
      · have hcb : (((addHi t y1 0 : Nat) : Int) != 0) = false := by simp [hcy]
        have al : addLo t y1 0 = t + y1 := by rw [hcy] at ae; omega
        have hlt : t + y1 < 18446744073709551616 := by rw [← al]; exact addLo_lt _ _ _
        clear ae hcy ahl
        go_wp2_with fail
        go_round
        case rel => exact ⟨v, t + y1, rfl, by go_num, rfl, rfl, hlt, vl, HM.out.1⟩
        case measure => simp [intOf]; have := HM.out.2; omega
      have hcb : (((addHi t y1 0 : Nat) : Int) != 0) = true := by simp; omega
      have hge : 18446744073709551616 ≤ t + y1 := by omega
      have HQ2 : Hid (v = (A * 18446744073709551616 + r0) / (y1 * 18446744073709551616 + y0)) := HM.out.1.broke rfl hYp vl m0 hge
      clear ae hcy ahl hge
      go_wp2_with fail
      go_ret
      exact ⟨ret_int (congrArg _ (HQ2.out.trans HG.out.symm)), 1 + nq, rfl⟩
    · have d1 : decide (t < mulHi g y0) = false := decide_eq_false (by omega)
      have d2 : (((mulHi g y0 : Nat) : Int) == ((t : Nat) : Int)) = true := by simp; omega
      by_cases h2 : r0 < mulLo g y0
      · have d3 : decide (r0 < mulLo g y0) = true := decide_eq_true h2
        have hc : t * 18446744073709551616 + r0 < g * y0 := by omega
        clear me ml h1 h2
        obtain ⟨hp, HN⟩ := HD.out.step rfl hYp hc
        obtain ⟨v, hv⟩ : ∃ v, v = g - 1 := ⟨_, rfl⟩
        have ev : ((g : Nat) : Int) - 1 = ((v : Nat) : Int) := by omega
        have vl : v < 18446744073709551616 := by omega
        obtain ⟨mp1, mp2⟩ := mul_pred hp m0
        rw [← hv] at mp1 mp2
        have HM : Hid (Dig2 A r0 (y1 * 18446744073709551616 + y0) y1 v (t + y1) ∧ v < g) := ⟨by rw [hv]; exact HN, by omega⟩
        have ad := add64_c0 t y1
        have sb := sub64_c0 (mulLo g y0) y0
        have ae := add_eq t y1 0
        have ahl := addHi_le t y1 0 ht m1 (by omega)
        have mvl := mulHi_le v y0 vl m0
        have mv2 : ((mulHi g y0 : Nat) : Int) - ((subHi (mulLo g y0) y0 0 : Nat) : Int) = ((mulHi v y0 : Nat) : Int) := by omega
        have mvb : ((mulHi v y0 : Nat) : Int) < 18446744073709551616 := by omega
        clear HN hv hc mp2 mvl
        by_cases hcy : addHi t y1 0 = 0
        · have hcb : (((addHi t y1 0 : Nat) : Int) != 0) = false := by simp [hcy]
          have al : addLo t y1 0 = t + y1 := by rw [hcy] at ae; omega
          have hlt : t + y1 < 18446744073709551616 := by rw [← al]; exact addLo_lt _ _ _
          clear ae hcy ahl
          go_wp2_with fail
          go_round
          case rel => exact ⟨v, t + y1, rfl, by go_num, rfl, rfl, hlt, vl, HM.out.1⟩
          case measure => simp [intOf]; have := HM.out.2; omega
        have hcb : (((addHi t y1 0 : Nat) : Int) != 0) = true := by simp; omega
        have hge : 18446744073709551616 ≤ t + y1 := by omega
        have HQ2 : Hid (v = (A * 18446744073709551616 + r0) / (y1 * 18446744073709551616 + y0)) := HM.out.1.broke rfl hYp vl m0 hge
        clear ae hcy ahl hge
        go_wp2_with fail
        go_ret
        exact ⟨ret_int (congrArg _ (HQ2.out.trans HG.out.symm)), 1 + nq, rfl⟩
      have d3 : decide (r0 < mulLo g y0) = false := decide_eq_false h2
      have HQ2 : Hid (g = (A * 18446744073709551616 + r0) / (y1 * 18446744073709551616 + y0)) := HD.out.done rfl hYp (by omega)
      clear me ml h1 h2
      go_wp2_with fail
      go_ret
      exact ⟨ret_int (congrArg _ (HQ2.out.trans HG.out.symm)), 1 + nq, rfl⟩
    have d1 : decide (t < mulHi g y0) = false := decide_eq_false (by omega)
    have d2 : (((mulHi g y0 : Nat) : Int) == ((t : Nat) : Int)) = false := by simp; omega
    have HQ2 : Hid (g = (A * 18446744073709551616 + r0) / (y1 * 18446744073709551616 + y0)) := HD.out.done rfl hYp (by omega)
    clear me ml h1
    go_wp2_with fail
    go_ret
    exact ⟨ret_int (congrArg _ (HQ2.out.trans HG.out.symm)), 1 + nq, rfl⟩
end Go.Proofs.YtfkkomppfghagaaGreatDoor
